/-
  Layer 2 (rice): what each call of the program's writer and reader returns, and what becomes of its memory.
-/
import Derived.Test.YteaelcimlmckjaaRows
import Derived.Test.YteaelcimlmckjaaRicePure
import Derived.Test.YteaelcimlmckjaaMem
import Derived.Test.YteaelcimlmckjaaShelf
import Derived.Outline
import Derived.BigQuiet
import Derived.BigRegion
import Derived.RegionTactic
import Derived.Deep.QuietTactic
import Derived.Deep.RegionWith
import Derived.IntWalk
namespace Go.Proofs.Yteaelcimlmckjaa
open Go.RowKit Go.Deep
attribute [local go_sem] str_size str_append str_toList str_get str_extract
set_option linter.unusedVariables false
set_option linter.unusedSimpArgs false

theorem u8_info : (Try.prog.info? 5).map (fun i => (i.zero, i.size, i.bytes)) = some (some (.int .u8 0), 1, 1) := by kernel_rfl
/-- The cells of the first m bytes of bits. -/
def cellsN (m : Nat) (l : List Bool) : List Value := (List.range m).map fun j => .int .u8 (byteAt l j)
theorem cellsN_length (m : Nat) (l : List Bool) : (cellsN m l).length = m := by simp [cellsN]
theorem cellsN_get (m : Nat) (l : List Bool) (j : Nat) (h : j < m) : (cellsN m l)[j]? = some (.int .u8 (byteAt l j)) := by
  simp [cellsN, h]
theorem cellsN_zero (l : List Bool) (m : Nat) (h : byteAt l m = 0) : cellsN (m + 1) l = cellsN m l ++ [.int .u8 0] := by
  simp [cellsN, List.range_succ, h]
/-- 'string(b)' of a row of the call's own. -/
theorem conv_own {P : Program} (W : World) (src dst e : TypeId) (hs : P.underlying src = some (.slice e)) (he : P.underlying e = some (.int .u8)) (hd : P.underlying dst = some .string)
    (B : Nat) (l : List UInt8) (A : Option Addr) (n cap : Nat) (hn : n = l.length) (hr : W.ownsRow B e 1 (.slice A n cap) n (l.map fun b => .int .u8 (b.toNat : Int))) :
    (convert src dst (.slice A n cap)).run P W = .ok (.string (str l)) W := by
  subst hn
  rcases hr.2 with ⟨h, h0⟩ | ⟨g, c, cur, h, _⟩
  · injection h with h1 h2 h3
    subst h1 h3
    have hl : l = [] := List.eq_nil_of_length_eq_zero h0
    subst hl
    rw [run_convert_bytes_string W src dst e none _ _ hs he hd]
    simp [Conv.bytesToString]
    rfl
  · injection h with h1 h2 h3
    subst h1 h3
    refine run_convert_bytes_back W src dst e ⟨g, 0, none⟩ cap l hs he hd (fun j hj => ?_)
    exact hr.cells (g := g) rfl j _ (by simp [hj])
theorem packB_cells (l : List Bool) : (packB l).map (fun b => Value.int .u8 (b.toNat : Int)) = cellsN ((l.length + 7) / 8) l := by
  unfold packB packN cellsN
  rw [List.map_map]
  apply List.map_congr_left
  intro j _
  simp only [Function.comp]
  rw [UInt8.toNat_ofNat', Nat.mod_eq_of_lt (byteAt_lt _ _)]
/-- Block p is the program's writer that has the bits l; its blocks are F, all from B on. -/
structure IsW (B p : Nat) (l : List Bool) (F : List Nat) (w : World) : Prop where
  ex : ∃ v, w.heap[p]? = some (.cells #[v, .int .i64 (l.length : Int)] 78 (0, 0)) ∧
    w.ownsRow B 5 1 v ((l.length + 7) / 8) (cellsN ((l.length + 7) / 8) l) ∧ F = p :: v.ownBlock.toList
  low : B ≤ p
/-- What stands behind some rounds: r bits are still to come. -/
def addTo (l : List Bool) (n b r : Nat) : List Bool := l ++ lowB (n >>> r) (b - r)
theorem addTo_step (l : List Bool) (n b r c : Nat) (h : r ≤ b) (hc : c ≤ r) : addTo l n b (r - c) = addTo l n b r ++ lowB (n >>> (r - c)) c := by
  unfold addTo
  rw [lowB_split (n >>> (r - c)) (b - (r - c)) (b - r) (by omega), ← Nat.shiftRight_add, List.append_assoc, show b - (r - c) - (b - r) = c by omega, show r - c + c = r by omega]
theorem addTo_length (l : List Bool) (n b r : Nat) : (addTo l n b r).length = l.length + (b - r) := by
  unfold addTo; rw [List.length_append, lowB_length]
theorem put_val (L : List Bool) (n r c m q j d z : Nat) (h : m = L.length ∧ q = m % 8 ∧ j = m / 8 ∧ 0 < c ∧ q + c ≤ 8 ∧ d = 8 - c) (hz : z = byteAt (L ++ lowB (n >>> r) c) j) :
    bits .or .u8 (byteAt L j : Int) ((n : Int) / 2 ^ r % 256 * 2 ^ d % 256 / 2 ^ q) = (z : Int) := by
  obtain ⟨hm, hq, hj, hc, hqc, hd⟩ := h
  have e := byteAt_put L (n >>> r) c hc (by omega)
  rw [← hm, ← hj, ← hq, ← hz, ← hd, Nat.shiftRight_eq_div_pow, Nat.shiftLeft_eq, Nat.shiftRight_eq_div_pow] at e
  have hlt : n / 2 ^ r % 256 * 2 ^ d % 256 / 2 ^ q < 256 := Nat.lt_of_le_of_lt (Nat.div_le_self _ _) (Nat.mod_lt _ (by omega))
  rw [e, ← u8_or_nat _ _ (byteAt_lt _ _) hlt]
  congr 1
/-- The writer's state behind a call: the bits l, in its own blocks and new ones. -/
def Wrote (B p : Nat) (l : List Bool) (F : List Nat) (w w' : World) : Prop :=
  ∃ F', IsW B p l F' w' ∧ Keeps F w w' ∧ ∀ k, k ∈ F' → k ∈ F ∨ w.heap.size ≤ k
theorem Wrote.refl {B p : Nat} {l : List Bool} {F : List Nat} {w : World} (h : IsW B p l F w) : Wrote B p l F w w := ⟨F, h, Keeps.refl _ _, fun _ hk => .inl hk⟩
theorem Wrote.trans {B p : Nat} {l' : List Bool} {F F' : List Nat} {a b c : World} (hK : Keeps F a b) (hF : ∀ k, k ∈ F' → k ∈ F ∨ a.heap.size ≤ k) (h : Wrote B p l' F' b c) : Wrote B p l' F a c := by
  obtain ⟨G, h1, h2, h3⟩ := h
  refine ⟨G, h1, hK.trans h2 hF, fun k hk => ?_⟩
  rcases h3 k hk with h | h
  · exact hF k h
  · exact .inr (Nat.le_trans hK.size h)
theorem writer_done {B p g cap j m c q d r n x : Nat} {L : List Bool} {W : World} (hB : B ≤ p) (hp : W.heap[p]? = some (.cells #[.slice (some ⟨g, 0, none⟩) (j + 1) cap, .int .i64 (m : Int)] 78 (0, 0)))
    (hown : W.ownsRow B 5 1 (.slice (some ⟨g, 0, none⟩) (j + 1) cap) (j + 1) (cellsN (j + 1) L)) (h : m = L.length ∧ q = m % 8 ∧ j = m / 8 ∧ 0 < c ∧ q + c ≤ 8 ∧ d = 8 - c)
    (hx : x = byteAt (L ++ lowB (n >>> r) c) j) :
    IsW B p (L ++ lowB (n >>> r) c) [p, g] ((W.setCell ⟨g, j, none⟩ (.int .u8 x)).setCell ⟨p, 1, none⟩ (.int .i64 ((m : Int) + c))).drew := by
  obtain ⟨hm, hq, hj, hc, hqc, hd⟩ := h
  have hg : g ≠ p := row_apart hown hp (by decide) g rfl
  have h1 := blk_far (p := ⟨g, j, none⟩) hp (fun e => hg e.symm) (.int .u8 x)
  have h2 := blk_set h1 1 (.int .i64 ((m : Int) + c))
  simp only [List.setIfInBounds_toArray, List.set_cons_succ, List.set_cons_zero] at h2
  have h3 := row_set (p := ⟨p, 1, none⟩) (hown.stored j (.int .u8 x)).1 (by simpa [Value.ownBlock] using hg) (.int .i64 ((m : Int) + c))
  have hlen : (L ++ lowB (n >>> r) c).length = m + c := by rw [List.length_append, lowB_length, hm]
  have hk : (m + c + 7) / 8 = j + 1 := by omega
  refine ⟨⟨.slice (some ⟨g, 0, none⟩) (j + 1) cap, ?_, ?_, by simp [Value.ownBlock]⟩, hB⟩
  · rw [hlen]
    show _ = _
    rw [Int.natCast_add]; exact h2
  · rw [hlen, hk]
    have e : cellsN (j + 1) (L ++ lowB (n >>> r) c) = (cellsN (j + 1) L).set j (.int .u8 x) := by
      apply List.ext_getElem?
      intro i
      rw [List.getElem?_set, cellsN_length]
      by_cases hi : i < j + 1
      · rw [cellsN_get _ _ _ hi]
        by_cases e : j = i
        · subst e; rw [if_pos rfl, if_pos (by omega), hx]
        · rw [if_neg e, cellsN_get _ _ _ hi, byteAt_old _ _ _ (by omega)]
      · rw [if_neg (by omega), List.getElem?_eq_none (by rw [cellsN_length]; omega), List.getElem?_eq_none (by rw [cellsN_length]; omega)]
    rw [e]; exact h3
theorem add_c (B p : Nat) (l : List Bool) (F : List Nat) (n b : Nat) (w : World) (hb : b ≤ 64) (hl : l.length ≤ 4294967296) (hW : IsW B p l F w) :
    Calls Try.prog 57 #[.pointer (some ⟨p, 0, none⟩), .int .u64 n, .int .i64 b] w fun e w' => e = .returned (.tuple #[]) ∧ Wrote B p (l ++ lowB n b) F w w' := by
  obtain ⟨i0, hi0, hz0, hz1, hz2⟩ := info_parts u8_info
  go_enter Try.func57, Try.ntmps57
  go_wp2_with fail
  go_loopw [2] (fun c wr => ∃ (r : Nat) (F' : List Nat), r ≤ b ∧ c = .int .i64 r ∧ IsW B p (addTo l n b r) F' wr ∧ Keeps F w wr ∧ ∀ k, k ∈ F' → k ∈ F ∨ w.heap.size ≤ k) (fun c _ => (intOf c).toNat)
  case atStart => exact ⟨b, F, Nat.le_refl _, rfl, by unfold addTo; simpa [lowB] using hW, Keeps.refl _ _, fun k hk => .inl hk⟩
  case round =>
    obtain ⟨r, F', hr, rfl, hW', hK, hF'⟩ := hrel
    by_cases hr0 : r = 0
    · subst hr0
      go_wp2_with fail
      go_end0
      exact ⟨rfl, F', by simpa [addTo] using hW', hK, hF'⟩
    · obtain ⟨⟨v, hp, hown, hF⟩, hB⟩ := hW'
      obtain ⟨A, cap, rfl⟩ := row_slice hown
      have hlen := addTo_length l n b r
      have hstep := fun c (h : c ≤ r) => addTo_step l n b r c hr h
      generalize addTo l n b r = L at *
      obtain ⟨m, hm⟩ : ∃ m, m = L.length := ⟨_, rfl⟩
      rw [← hm] at hlen hp hown hF
      obtain ⟨q, hq⟩ : ∃ q, q = m % 8 := ⟨_, rfl⟩
      obtain ⟨j, hj⟩ : ∃ j, j = m / 8 := ⟨_, rfl⟩
      obtain ⟨c, hc⟩ : ∃ c, c = min r (8 - q) := ⟨_, rfl⟩
      obtain ⟨d, hd⟩ : ∃ d, d = 8 - c := ⟨_, rfl⟩
      obtain ⟨r', hr'⟩ : ∃ r', r' = r - c := ⟨_, rfl⟩
      have hjl : j ≤ 4294967360 := by omega
      have hm64 : m ≤ 4294967360 := by omega
      have hc8 : c ≤ 8 := by omega
      have hq8 : q < 8 := by omega
      have hd8 : d < 8 := by omega
      have hrr : r' ≤ 64 := by omega
      have eq1 : (m : Int) % 8 = (q : Int) := by omega
      have eq2 : min (r : Int) (8 - (q : Int)) = (c : Int) := by omega
      have eq3 : (r : Int) - (c : Int) = (r' : Int) := by omega
      have eq4 : 8 - (c : Int) = (d : Int) := by omega
      have hpl := lt_of_block hp
      have hc0 := blk_cell hp 0
      have hc1 := blk_cell hp 1
      have hf0 := blk_free hp 0
      have hf1 := blk_free hp 1
      simp only [List.getElem?_toArray, List.getElem?_cons_zero, List.getElem?_cons_succ] at hc0 hc1
      have Q := Lib.hid (And.intro hlen hr')
      have HQ : Hid (m = L.length ∧ q = m % 8 ∧ j = m / 8 ∧ 0 < c ∧ q + c ≤ 8 ∧ d = 8 - c) := ⟨hm, hq, hj, by omega, by omega, hd⟩
      have HF := Lib.hid hF
      have HS := Lib.hid (hstep c (by omega))
      clear hstep hF
      have hne := row_apart hown hp (by decide)
      by_cases hu : q = 0
      case' pos =>
        have ht : ((q : Int) == 0) = true := by simp [hu]
        have hk : (m + 7) / 8 = j := by omega
        rw [hk] at hown hc0 hp hne HF
        have HO := Lib.hid (hown.alloc (.cells #[.int .u8 0] 5))
        have hz : byteAt L j = 0 := byteAt_zero L j (by omega)
        have HZ := Lib.hid hz
        clear hm hlen hq hj hc hd hr' hk hown hu hz
        go_wp2_with (at_builtin; refine wpList_append_own_at _ rfl (.tmp 21) (.tmp 22) 39 rfl B 5 i0 (.int .u8 0) 1 1 Try.underlying39 hi0 hz0 hz1 hz2 rfl (by decide) (.slice A j cap) j _ rfl HO.out ⟨wr.heap.size, 0, none⟩ 1 1 [.int .u8 0] rfl rfl ?c1 ?c2 ?c3 ?c4 ?c5 ?c6)
        case c1 => exact cell_one_new _ _ _
        case c2 => intro u hu; simp at hu; subst hu; rfl
        case c3 => unfold maxLen; omega
        case c4 => omega
        case c5 => simp; omega
        case' c6 =>
          intro v' w1 hown1 hg1 _ hat
          obtain ⟨g, cap1, rfl⟩ : ∃ g cap1, v' = .slice (some ⟨g, 0, none⟩) (j + 1) cap1 := by
            rcases hown1.2 with ⟨_, h⟩ | ⟨g, cap', _, h, _⟩
            · omega
            · exact ⟨g, cap', h⟩
          have hp1 := (hg1.block p (by simp; omega) (fun e => hne _ e.symm rfl)).trans (blk_alloc hp _)
          have d0 := blk_cell hp1 0
          have d1 := blk_cell hp1 1
          have e0 := blk_free hp1 0
          simp only [List.getElem?_toArray, List.getElem?_cons_zero, List.getElem?_cons_succ] at d0 d1
          go_wp2
          have hp2 := blk_set hp1 0 (.slice (some ⟨g, 0, none⟩) (j + 1) cap1)
          simp only [List.setIfInBounds_toArray, List.set_cons_zero] at hp2
          have hg : g ≠ p := row_apart hown1 hp1 (by decide) g rfl
          have hown2 := row_set (p := ⟨p, 0, none⟩) hown1 (by simpa [Value.ownBlock] using hg) (.slice (some ⟨g, 0, none⟩) (j + 1) cap1)
          rw [← cellsN_zero L j HZ.out] at hown2
          have hKK : Keeps F' wr (w1.setCell ⟨p, 0, none⟩ (.slice (some ⟨g, 0, none⟩) (j + 1) cap1)) := by
            refine (((Keeps.refl F' wr).alloc _).grown hg1 fun k hk => .inl ?_).setCell (.inl ?_) _
            · rw [HF.out, hk]; simp
            · rw [HF.out]; simp
          have hgF : g ∈ F' ∨ wr.heap.size ≤ g := by
            rcases hat with e | e
            · rw [HF.out, ← e]; simp [Value.ownBlock]
            · simp [Value.ownBlock] at e; omega
          generalize w1.setCell ⟨p, 0, none⟩ (.slice (some ⟨g, 0, none⟩) (j + 1) cap1) = W at *
          clear hp hc0 hc1 hf0 hf1 hne HO HZ hown1 hg1 hp1 d0 d1 e0 hat
      case' neg =>
        have ht : ((q : Int) == 0) = false := by simp; omega
        have hk : (m + 7) / 8 = j + 1 := by omega
        rw [hk] at hown hp HF
        obtain ⟨g, cap1, hA⟩ : ∃ g cap1, Value.slice A (j + 1) cap = .slice (some ⟨g, 0, none⟩) (j + 1) cap1 := by
          rcases hown.2 with ⟨_, h⟩ | ⟨g, cap', _, h, _⟩
          · omega
          · exact ⟨g, cap', h⟩
        rw [hA] at hown hp HF
        have hp2 := hp
        have hown2 := hown
        have hg : g ≠ p := row_apart hown hp (by decide) g rfl
        have hKK : Keeps F' wr wr := Keeps.refl _ _
        have hgF : g ∈ F' ∨ wr.heap.size ≤ g := by rw [HF.out]; simp [Value.ownBlock]
        obtain ⟨W, hW⟩ : ∃ W, W = wr := ⟨_, rfl⟩
        rw [← hW] at hp2 hown2 hKK
        clear hm hlen hq hj hc hd hr' hk hown hu hp hc0 hne hA
        subst hW
        go_wp2_with fail
        clear hc1 hf0 hf1
      all_goals
        have hc0 := blk_cell hp2 0
        have hc1 := blk_cell hp2 1
        have hf0 := blk_free hp2 0
        have hf1 := blk_free hp2 1
        simp only [List.getElem?_toArray, List.getElem?_cons_zero, List.getElem?_cons_succ] at hc0 hc1
        have hcg := hown2.cellAt j (by omega)
        rw [cellsN_get _ _ _ (by omega)] at hcg
        have hfg := hown2.frozenAt j
        have hx := byteAt_lt L j
        obtain ⟨z, hz⟩ : ∃ z, z = byteAt (L ++ lowB (n >>> r') c) j := ⟨_, rfl⟩
        have hv := put_val L n r' c m q j d z HQ.out hz
        obtain ⟨x, hxe⟩ : ∃ x, x = byteAt L j := ⟨_, rfl⟩
        rw [← hxe] at hcg hx hv
        have HX := Lib.hid hxe
        have HZZ := Lib.hid hz
        clear hxe hz
        go_region
        go_wp2
        go_roundw
        case rel =>
          have hs := HS.out
          rw [← Q.out.2] at hs
          refine ⟨r', [p, g], by omega, rfl, ?_, ?_, ?_⟩
          · rw [hs]
            exact writer_done hB hp2 hown2 HQ.out HZZ.out
          · refine (((hK.trans hKK hF').setCell (p := ⟨g, j, none⟩) ?_ _).setCell (p := ⟨p, 1, none⟩) ?_ _).drew
            · rcases hgF with h | h
              · exact hF' g h
              · exact .inr (Nat.le_trans hK.size h)
            · exact hF' p (by rw [HF.out]; simp)
          · intro k hk
            simp only [List.mem_cons, List.not_mem_nil, or_false] at hk
            rcases hk with rfl | rfl
            · exact hF' _ (by rw [HF.out]; simp)
            · rcases hgF with h | h
              · exact hF' _ h
              · exact .inr (Nat.le_trans hK.size h)
        case measure => simp [intOf]; omega
theorem mayCount_yes (b : Int) (w : World) (h1 : 0 ≤ b) (h2 : b ≤ 64) : Calls Try.prog 69 #[.int .i64 b] w fun e w' => e = .returned (.bool true) ∧ w = w' := by
  go_enter Try.func69, Try.ntmps69
  go_wp2
  go_ret
  exact ⟨rfl, rfl⟩
theorem mayCount_no (b : Int) (w : World) (h : b < 0 ∨ 64 < b) : Calls Try.prog 69 #[.int .i64 b] w fun e w' => e = .returned (.bool false) ∧ w = w' := by
  rcases h with h | h
  · go_enter Try.func69, Try.ntmps69
    go_wp2
    go_ret
    exact ⟨rfl, rfl⟩
  · go_enter Try.func69, Try.ntmps69
    go_wp2
    go_ret
    exact ⟨ret_bool (by simp; omega), rfl⟩
theorem mayShift_yes (b : Int) (w : World) (h1 : 0 ≤ b) (h2 : b ≤ 40) : Calls Try.prog 56 #[.int .i64 b] w fun e w' => e = .returned (.bool true) ∧ w = w' := by
  go_enter Try.func56, Try.ntmps56
  go_wp2
  go_ret
  exact ⟨rfl, rfl⟩
theorem mayShift_no (b : Int) (w : World) (h : b < 0 ∨ 40 < b) : Calls Try.prog 56 #[.int .i64 b] w fun e w' => e = .returned (.bool false) ∧ w = w' := by
  rcases h with h | h
  · go_enter Try.func56, Try.ntmps56
    go_wp2
    go_ret
    exact ⟨rfl, rfl⟩
  · go_enter Try.func56, Try.ntmps56
    go_wp2
    go_ret
    exact ⟨ret_bool (by simp; omega), rfl⟩
theorem new_c (w : World) : Calls Try.prog 43 #[] w fun e w' => e = .returned (.pointer (some ⟨w.heap.size, 0, none⟩)) ∧ w' = w.alloc (.cells #[.slice none 0 0, .int .i64 0] 78) := by
  go_enter Try.func43, Try.ntmps43
  go_wp2
  go_ret
  exact ⟨rfl, rfl⟩
theorem isW_new (w : World) (B : Nat) (hB : B ≤ w.heap.size) : IsW B w.heap.size [] [w.heap.size] (w.alloc (.cells #[.slice none 0 0, .int .i64 0] 78)) :=
  ⟨⟨_, blk_new _ _, World.ownsRow_nil _ _ _ _, rfl⟩, hB⟩
theorem div_int (n k : Nat) : ((n : Int) / 2 ^ k) = ((n / 2 ^ k : Nat) : Int) := by simp
set_option maxRecDepth 100000 in
theorem rice_c (B p : Nat) (l : List Bool) (F : List Nat) (n : Nat) (b : Int) (w : World) (hn : n < 18446744073709551616) (hl : l.length ≤ 4294967000) (hW : IsW B p l F w) :
    Calls Try.prog 44 #[.pointer (some ⟨p, 0, none⟩), .int .u64 n, .int .i64 b] w fun e w' => e = .returned (.int .i64 (riceE b)) ∧ Wrote B p (riceL l n b) F w w' := by
  by_cases h0 : b < 0 ∨ 40 < b
  · have he : riceE b = 1 := by unfold riceE; rw [if_pos h0]
    have hL : riceL l n b = l := by unfold riceL; rw [if_neg (by omega)]
    rw [he, hL]
    go_enter Try.func44, Try.ntmps44
    go_wp2_with fail
    refine (mayShift_no b _ h0).mono ?_
    rintro e w' ⟨rfl, rfl⟩
    go_wp2_with fail
    go_ret
    exact ⟨rfl, Wrote.refl hW⟩
  · obtain ⟨k, rfl⟩ : ∃ k : Nat, b = k := ⟨b.toNat, by omega⟩
    have he : riceE k = 0 := by unfold riceE; rw [if_neg h0]
    have hL : riceL l n k = l ++ code n k := by unfold riceL; rw [if_pos he]; rfl
    rw [he, hL]
    obtain ⟨q, hq⟩ : ∃ q, n / 2 ^ k = q := ⟨_, rfl⟩
    have hqq : (n : Int) / 2 ^ k = (q : Int) := by rw [div_int, hq]
    have hc := hq
    clear he hL
    by_cases h1 : 24 ≤ q
    · have hcode : code n k = lowB 16777215 24 ++ lowB n 64 := by
        unfold code; rw [if_pos (by omega), show (16777215 : Nat) = 2 ^ 24 - 1 from rfl, lowB_ones]
      have HC := Lib.hid hcode
      clear hcode hq hc
      go_enter Try.func44, Try.ntmps44
      go_wp2_with fail
      refine (mayShift_yes k _ (by omega) (by omega)).mono ?_
      rintro e w' ⟨rfl, rfl⟩
      go_wp2_with fail
      refine (add_c B p l F 16777215 24 _ (by omega) (by omega) hW).mono ?_
      rintro e w1 ⟨rfl, F1, hW1, hK1, hF1⟩
      go_wp2_with fail
      refine (add_c B p _ F1 n 64 _ (by omega) (by rw [List.length_append, lowB_length]; omega) hW1).mono ?_
      rintro e w2 ⟨rfl, hWr⟩
      go_wp2_with fail
      go_ret
      refine ⟨rfl, ?_⟩
      rw [HC.out, ← List.append_assoc]
      exact Wrote.trans hK1 hF1 hWr
    · have hcode : code n k = lowB (2 ^ q - 1) q ++ (lowB 0 1 ++ lowB n k) := by
        unfold code; rw [if_neg (by omega), lowB_ones, hq]; rfl
      have HC := Lib.hid hcode
      have hpow : 2 ^ q ≤ 8388608 := Nat.pow_le_pow_right (n := 2) (by omega) (show q ≤ 23 by omega)
      obtain ⟨x, hx⟩ : ∃ x, x = 2 ^ q - 1 := ⟨_, rfl⟩
      have hp1 := Nat.two_pow_pos q
      have hsh : IntKind.u64.wrap (2 ^ q) = ((x + 1 : Nat) : Int) := by
        rw [IntKind.wrap_u64, hx, show 2 ^ q - 1 + 1 = 2 ^ q by omega]
        have e : ((2 : Int) ^ q) = ((2 ^ q : Nat) : Int) := by simp
        rw [e]; omega
      have HX := Lib.hid hx
      have hxl : x ≤ 8388608 := by omega
      clear hcode hq hc hx hpow hp1
      go_enter Try.func44, Try.ntmps44
      go_wp2_with fail
      refine (mayShift_yes k _ (by omega) (by omega)).mono ?_
      rintro e w' ⟨rfl, rfl⟩
      go_wp2_with fail
      refine (add_c B p l F x q _ (by omega) (by omega) hW).mono ?_
      rintro e w1 ⟨rfl, F1, hW1, hK1, hF1⟩
      go_wp2_with fail
      refine (add_c B p _ F1 0 1 _ (by omega) (by rw [List.length_append, lowB_length]; omega) hW1).mono ?_
      rintro e w2 ⟨rfl, F2, hW2, hK2, hF2⟩
      go_wp2_with fail
      refine (add_c B p _ F2 n k _ (by omega) (by rw [List.length_append, List.length_append, lowB_length, lowB_length]; omega) hW2).mono ?_
      rintro e w3 ⟨rfl, hWr⟩
      go_wp2_with fail
      go_ret
      refine ⟨rfl, ?_⟩
      rw [HC.out, ← List.append_assoc, ← List.append_assoc, ← HX.out]
      exact Wrote.trans hK1 hF1 (Wrote.trans hK2 hF2 hWr)
theorem bytes_c (B p : Nat) (l : List Bool) (F : List Nat) (w : World) (hl : l.length ≤ 4294967296) (hW : IsW B p l F w) :
    Calls Try.prog 45 #[.pointer (some ⟨p, 0, none⟩)] w fun e w' => e = .returned (.string (str (packB l))) ∧ w = w' := by
  obtain ⟨⟨v, hp, hown, -⟩, -⟩ := hW
  have hc0 := blk_cell hp 0
  simp only [List.getElem?_toArray, List.getElem?_cons_zero, List.getElem?_cons_succ] at hc0
  obtain ⟨A, cap, rfl⟩ := row_slice hown
  have hcv := conv_own (P := Try.prog) w 39 9 5 Try.underlying39 Try.underlying5 Try.underlying9 B (packB l) A _ cap (by rw [packB_length]) (by rw [packB_cells]; exact hown)
  go_enter Try.func45, Try.ntmps45
  go_wp2
  go_ret
  exact ⟨rfl, rfl⟩
end Go.Proofs.Yteaelcimlmckjaa
