/-
  Layer 2 (rice): the document's own writer.
-/
import Derived.Test.YteaelcimlmckjaaRiceRef
import Derived.Deep.RegionLaw
namespace Go.Proofs.Yteaelcimlmckjaa
open Go.RowKit Go.Deep
attribute [local go_sem] str_size str_append str_toList str_get str_extract
set_option linter.unusedVariables false
set_option linter.unusedSimpArgs false

/-- Block p is the document's writer that has the bits l; its blocks are F, all from B on. -/
structure IsV (B p : Nat) (l : List Bool) (F : List Nat) (w : World) : Prop where
  ex : ∃ v, w.heap[p]? = some (.cells #[v] 57 (0, 0)) ∧ w.ownsRow B 4 1 v l.length (l.map Value.bool) ∧ F = p :: v.ownBlock.toList
  low : B ≤ p
def WroteV (B p : Nat) (l : List Bool) (F : List Nat) (w w' : World) : Prop :=
  ∃ F', IsV B p l F' w' ∧ Keeps F w w' ∧ ∀ k, k ∈ F' → k ∈ F ∨ w.heap.size ≤ k
theorem WroteV.refl {B p : Nat} {l : List Bool} {F : List Nat} {w : World} (h : IsV B p l F w) : WroteV B p l F w w := ⟨F, h, Keeps.refl _ _, fun _ hk => .inl hk⟩
theorem refNew_c (w : World) : Calls Try.prog 21 #[] w fun e w' => e = .returned (.pointer (some ⟨w.heap.size, 0, none⟩)) ∧ w' = w.alloc (.cells #[.slice none 0 0] 57) := by
  go_enter Try.func21, Try.ntmps21
  go_wp2
  go_ret
  exact ⟨rfl, rfl⟩
theorem isV_new (w : World) (B : Nat) (hB : B ≤ w.heap.size) : IsV B w.heap.size [] [w.heap.size] (w.alloc (.cells #[.slice none 0 0] 57)) :=
  ⟨⟨_, blk_new _ _, World.ownsRow_nil _ _ _ _, rfl⟩, hB⟩
theorem wroteV_done {B p n cap cap' : Nat} {w w1 w2 : World} {l m : List Bool} {F : List Nat} {A A' : Option Addr} (hp : w.heap[p]? = some (.cells #[.slice A l.length cap] 57 (0, 0)))
    (hown : w.ownsRow B 4 1 (.slice A l.length cap) l.length (l.map Value.bool)) (hF : F = p :: (Value.ownBlock (.slice A l.length cap)).toList) (hB : B ≤ p) (hb1 : Below w.heap.size w w1)
    (hown2 : w2.ownsRow B 4 1 (.slice A' n cap') n (l.map Value.bool ++ m.map Value.bool)) (hn : n = (l ++ m).length) (hg2 : w1.grownBy w2 (Value.ownBlock (.slice A l.length cap)))
    (hat : Value.ownBlock (.slice A' n cap') = Value.ownBlock (.slice A l.length cap) ∨ Value.ownBlock (.slice A' n cap') = some w1.heap.size) :
    WroteV B p (l ++ m) F w (w2.setCell ⟨p, 0, none⟩ (.slice A' n cap')) := by
  subst hn
  have hne := row_apart hown hp (by decide)
  have hp2 := (hg2.block p (Nat.lt_of_lt_of_le (lt_of_block hp) hb1.size) (fun e => hne _ e.symm rfl)).trans ((hb1.block p (lt_of_block hp)).trans hp)
  have hp3 := blk_set hp2 0 (.slice A' (l ++ m).length cap')
  have hne2 := row_apart hown2 hp2 (by decide)
  have hown3 := row_set (p := ⟨p, 0, none⟩) hown2 (fun e => hne2 _ e rfl) (.slice A' (l ++ m).length cap')
  rw [← List.map_append] at hown3
  refine ⟨p :: (Value.ownBlock (.slice A' (l ++ m).length cap')).toList, ⟨⟨_, hp3, hown3, rfl⟩, hB⟩, ?_, ?_⟩
  · refine ((Keeps.below hb1).grown hg2 (fun g hg => .inl ?_)).setCell (p := ⟨p, 0, none⟩) (.inl (by rw [hF]; simp)) _
    rw [hF, hg]; simp
  · intro g hg
    simp only [List.mem_cons, Option.mem_toList] at hg
    rcases hg with rfl | hg
    · left; rw [hF]; simp
    · rcases hat with e | e
      · left; rw [hF, ← e, hg]; simp
      · right
        have : g = w1.heap.size := by rw [hg] at e; exact Option.some.inj e
        have := hb1.size; omega
set_option maxRecDepth 100000 in
theorem refRice_c (B p : Nat) (l : List Bool) (F : List Nat) (n : Nat) (b : Int) (w : World) (hn : n < 18446744073709551616) (hl : l.length ≤ 4294967000) (hW : IsV B p l F w) :
    Calls Try.prog 22 #[.pointer (some ⟨p, 0, none⟩), .int .u64 n, .int .i64 b] w fun e w' => e = .returned (.int .i64 (riceE b)) ∧ WroteV B p (riceL l n b) F w w' := by
  obtain ⟨i0, hi0, hz0, hz1, hz2⟩ := info_parts bool_info
  by_cases h0 : b < 0 ∨ 40 < b
  · have he : riceE b = 1 := by unfold riceE; rw [if_pos h0]
    have hL : riceL l n b = l := by unfold riceL; rw [if_neg (by omega)]
    rw [he, hL]
    rcases h0 with h0 | h0
    all_goals
      go_enter Try.func22, Try.ntmps22
      go_wp2_with fail
      go_ret
      exact ⟨rfl, WroteV.refl hW⟩
  · obtain ⟨k, rfl⟩ : ∃ k : Nat, b = k := ⟨b.toNat, by omega⟩
    have he : riceE k = 0 := by unfold riceE; rw [if_neg h0]
    have hL : riceL l n k = l ++ code n k := by unfold riceL; rw [if_pos he]; rfl
    have E := Lib.hid (And.intro he hL)
    have hcl := code_le n k (by omega)
    obtain ⟨⟨v, hp, hown, hF⟩, hB⟩ := hW
    have hc0 := blk_cell hp 0
    have hf0 := blk_free hp 0
    simp only [List.getElem?_toArray, List.getElem?_cons_zero, List.getElem?_cons_succ] at hc0
    obtain ⟨A, cap, rfl⟩ := row_slice hown
    have HO := Lib.hid hown
    have hBs : B ≤ w.heap.size := Nat.le_trans hB (Nat.le_of_lt (lt_of_block hp))
    have HF := Lib.hid hF
    have HNE := Lib.hid (row_apart hown hp (by decide))
    clear he hL hown hF
    go_enter Try.func22, Try.ntmps22
    go_wp2_with fail
    go_region_law (first
            | (go_simp; go_at_call 30; refine (code_c n k _ (by omega) hn).mono ?_; rintro e w1 ⟨⟨v1, rfl, ⟨g1, cap1, rfl⟩, hown1⟩, hb1⟩
               have hc1 := (hb1.cell (p := ⟨p, 0, none⟩) (lt_of_block hp)).trans hc0
               dsimp only)
            | (refine step_app (by rfl) (.tmp 17) (.tmp 20) 55 (by rfl) B 4 i0 (.bool false) 1 1 Try.underlying55 hi0 hz0 hz1 hz2 rfl (by decide) (.slice A l.length cap) l.length (l.map Value.bool) (by rfl) ((Keeps.below (F := []) hb1).row HO.out (by simp)) ⟨g1, 0, none⟩ _ cap1 ((code n k).map Value.bool) (by rfl) (by simp) (hown1.cells (g := g1) rfl) bool_cell (by unfold maxLen; omega) (by omega) (Nat.le_trans hBs hb1.size) ?_
               intro A' cap' w2 hown2 hg2 hat
               have hp2 := (hg2.block p (Nat.lt_of_lt_of_le (lt_of_block hp) hb1.size) (fun e => HNE.out _ e.symm rfl)).trans ((hb1.block p (lt_of_block hp)).trans hp)
               have hc2 := blk_cell hp2 0
               have hf2 := blk_free hp2 0
               simp only [List.getElem?_toArray, List.getElem?_cons_zero] at hc2))
    all_goals
      go_wp2
      go_ret
      rw [E.out.1, E.out.2]
      exact ⟨rfl, wroteV_done hp HO.out HF.out hB (below_of_drew hb1) hown2 (by rw [List.length_append]) hg2 hat⟩
theorem take_getD (l : List Bool) (n i : Nat) : (l.take n).getD i false = if i < n then l.getD i false else false := by
  rw [List.getD_eq_getElem?_getD, List.getElem?_take]
  split
  · rw [List.getD_eq_getElem?_getD]
  · rfl
theorem take_at (l : List Bool) (j u v : Nat) : (l.take (8 * j + u)).getD (8 * j + v) false = if v < u then l.getD (8 * j + v) false else false := by
  rw [take_getD]
  by_cases h : v < u
  · rw [if_pos h, if_pos (by omega)]
  · rw [if_neg h, if_neg (by omega)]
theorem byteAt_of (l : List Bool) (j u : Nat) : byteAt (l.take (8 * j + u)) j = m8 (if 0 < u then l.getD (8 * j + 0) false else false) (if 1 < u then l.getD (8 * j + 1) false else false) (if 2 < u then l.getD (8 * j + 2) false else false)
    (if 3 < u then l.getD (8 * j + 3) false else false) (if 4 < u then l.getD (8 * j + 4) false else false) (if 5 < u then l.getD (8 * j + 5) false else false) (if 6 < u then l.getD (8 * j + 6) false else false) (if 7 < u then l.getD (8 * j + 7) false else false) := by
  rw [← take_at, ← take_at, ← take_at, ← take_at, ← take_at, ← take_at, ← take_at, ← take_at]
  rfl
theorem byteAt_bit_more (l : List Bool) (j u : Nat) (hu : u < 8) : byteAt (l.take (8 * j + u + 1)) j = byteAt (l.take (8 * j + u)) j + (l.getD (8 * j + u) false).toNat * (128 / 2 ^ u) := by
  rw [Nat.add_assoc, byteAt_of, byteAt_of]
  generalize hf : (fun v => l.getD (8 * j + v) false) = f
  have hfv : ∀ v, l.getD (8 * j + v) false = f v := fun v => by rw [← hf]
  simp only [hfv]
  match u, hu with
  | 0, _ => simp [m8]
  | 1, _ => simp [m8]
  | 2, _ => simp [m8]
  | 3, _ => simp [m8]
  | 4, _ => simp [m8]
  | 5, _ => simp [m8]
  | 6, _ => simp [m8]
  | 7, _ => simp [m8]
theorem byteAt_bit_else (l : List Bool) (i j : Nat) (h : i / 8 ≠ j) : byteAt (l.take (i + 1)) j = byteAt (l.take i) j := by
  unfold byteAt
  simp only [take_getD]
  congr 1 <;> (split <;> split <;> first | rfl | omega)
set_option maxRecDepth 100000 in
theorem refBytes_c (B p : Nat) (l : List Bool) (F : List Nat) (w : World) (hl : l.length ≤ 4294967296) (hW : IsV B p l F w) :
    Calls Try.prog 23 #[.pointer (some ⟨p, 0, none⟩)] w fun e w' => e = .returned (.string (str (packB l))) ∧ Below w.heap.size w w' := by
  obtain ⟨⟨v, hp, hown, -⟩, -⟩ := hW
  have hc0 := blk_cell hp 0
  simp only [List.getElem?_toArray, List.getElem?_cons_zero, List.getElem?_cons_succ] at hc0
  obtain ⟨A, cap, rfl⟩ := row_slice hown
  obtain ⟨m, hm⟩ : ∃ m, m = (l.length + 7) / 8 := ⟨_, rfl⟩
  obtain ⟨n, hn⟩ : ∃ n, n = l.length := ⟨_, rfl⟩
  rw [← hn] at hc0 hm
  have eq1 : ((n : Int) + 7) / 8 = (m : Int) := by omega
  have hml : m ≤ 4294967296 := by omega
  have hnl : n ≤ 4294967296 := by omega
  have hmk := fun W => run_make_row' (P := Try.prog) 39 5 (.int .u8 0) 1 Try.underlying39 u8_info rfl .i64 .i64 m (by omega) (by omega) W
  have HM := Lib.hid hm
  have HN := Lib.hid hn
  have HO := Lib.hid hown
  have hpl := lt_of_block hp
  clear hm hn hown
  go_enter Try.func23, Try.ntmps23
  go_wp2_with fail
  go_loopw [4] (fun c wr => ∃ i : Nat, i ≤ n ∧ c = .int .i64 i ∧ wr.rowIs w.heap.size 5 m (fun j => .int .u8 (byteAt (l.take i) j)) ∧ Below w.heap.size w wr) (fun c _ => n - (intOf c).toNat)
  case atStart =>
    exact ⟨0, Nat.zero_le _, rfl, (World.rowIs_made w (.int .u8 0) m 5).congr (fun j _ => by rw [byteAt_zero _ _ (by simp)]; rfl), (Below.refl _ _).alloc (Nat.le_refl _) _⟩
  case round =>
    obtain ⟨i, hi, rfl, hrow, hb⟩ := hrel
    have hc1 : wr.cell? ⟨p, 0, none⟩ = some (.slice A n cap) := (hb.cell (p := ⟨p, 0, none⟩) hpl).trans hc0
    by_cases hlt : i < n
    · have hil : i < l.length := by have := HN.out; omega
      obtain ⟨g, cp, hA, hBg, hgl⟩ := HO.out.form (by omega)
      injection hA with hA _ _
      subst hA
      have hcell := HO.out.cells (g := g) rfl i (.bool l[i]) (by simp [hil])
      have hgi : wr.cell? ⟨g, i, none⟩ = some (.bool l[i]) := by
        refine (hb.cell (p := ⟨g, i, none⟩) hgl).trans ?_
        have e : (⟨g, 0, none⟩ : Addr).add i = ⟨g, i, none⟩ := by unfold Addr.add; split <;> simp_all
        rw [← e]; exact hcell
      have hgd : l.getD i false = l[i] := by rw [List.getD_eq_getElem?_getD, List.getElem?_eq_getElem hil]; rfl
      obtain ⟨j, hj⟩ : ∃ j, j = i / 8 := ⟨_, rfl⟩
      obtain ⟨u, hu⟩ : ∃ u, u = i % 8 := ⟨_, rfl⟩
      have hmore := byteAt_bit_more l j u (by omega)
      rw [show 8 * j + u = i by omega, hgd] at hmore
      have helse := fun j' (h : j' ≠ j) => byteAt_bit_else l i j' (by omega)
      have hjm : j < m := by have := HM.out; omega
      have hcj := hrow.cell hjm
      have hfj := hrow.frozen j
      have hx := byteAt_lt (l.take i) j
      have hy := byteAt_lt (l.take (i + 1)) j
      obtain ⟨x, hxe⟩ : ∃ x, x = byteAt (l.take i) j := ⟨_, rfl⟩
      obtain ⟨y, hye⟩ : ∃ y, y = byteAt (l.take (i + 1)) j := ⟨_, rfl⟩
      rw [← hxe] at hcj hx hmore
      rw [← hye] at hy hmore
      obtain ⟨d, hd⟩ : ∃ d, d = 128 / 2 ^ u := ⟨_, rfl⟩
      have eq2 : (i : Int) / 8 = (j : Int) := by omega
      have eq3 : (i : Int) % 8 = (u : Int) := by omega
      have eq4 : (128 : Int) / 2 ^ u = (d : Int) := by rw [hd]; simp
      have hu8 : u < 8 := by omega
      rw [← hd] at hmore
      have hd128 : d ≤ 128 := by rw [hd]; exact Nat.div_le_self _ _
      have H1 := Lib.hid (And.intro hxe hye)
      have H2 : Hid (∀ j', j' ≠ j → byteAt (l.take (i + 1)) j' = byteAt (l.take i) j') := helse
      clear hxe hye hj hu hd helse hgd hcell
      cases hbv : l[i] with
      | true =>
        rw [hbv] at hgi hmore
        have hxy : x + d = y := by simp at hmore; omega
        have hxd : x + d < 256 := by omega
        have H3 := Lib.hid hxy
        clear hbv hmore hxy
        go_wp2_with fail
        go_roundw
        case rel =>
          refine ⟨i + 1, by omega, by go_num, (hrow.set j _).congr (fun j' _ => ?_), hb.setCell (Nat.le_refl _) _⟩
          by_cases e : j' = j
          · subst e
            rw [if_pos rfl, ← H1.out.2, ← H3.out]; simp
          · rw [if_neg e, H2.out j' e]
        case measure => simp [intOf]; omega
      | false =>
        rw [hbv] at hgi hmore
        have hxy : x = y := by simp at hmore; omega
        have H3 := Lib.hid hxy
        clear hbv hmore hxy
        go_wp2_with fail
        go_roundw
        case rel =>
          refine ⟨i + 1, by omega, by go_num, hrow.congr (fun j' _ => ?_), hb⟩
          by_cases e : j' = j
          · subst e
            rw [← H1.out.1, ← H1.out.2, H3.out]
          · rw [H2.out j' e]
        case measure => simp [intOf]; omega
    · obtain rfl : i = n := by omega
      have hcv := conv_row (P := Try.prog) wr 39 9 5 Try.underlying39 Try.underlying5 Try.underlying9 w.heap.size (packB l) m m _ hrow (by rw [packB_length, HM.out, HN.out]; omega) (fun j hj => by
        rw [List.take_of_length_le (by rw [HN.out]; omega)]
        simp only [packB, packN, List.getElem_map, List.getElem_range]
        rw [UInt8.toNat_ofNat', Nat.mod_eq_of_lt (byteAt_lt _ _)])
      rw [packB_length, ← HN.out, ← HM.out] at hcv
      clear hrow
      go_wp2
      go_ret
      exact ⟨rfl, hb⟩
end Go.Proofs.Yteaelcimlmckjaa
