/-
  Layer 4 (label): quoting: what the program's Quote, and the document's own Quote and Quoted, return; all that was in memory stays.
-/
import Derived.Test.YtopnnhjfcfhihaaDoorRows
import Derived.Test.YtopnnhjfcfhihaaDoorLabelPure
import Derived.Test.YtopnnhjfcfhihaaDoorMem
import Derived.Test.YtopnnhjfcfhihaaDoorShelf
import Derived.Outline
import Derived.BigQuiet
import Derived.BigRegion
import Derived.RegionTactic
import Derived.Deep.QuietTactic
import Derived.Deep.RegionWith
import Derived.Deep.AppendLies
import Derived.IntWalk
namespace Go.Proofs.YtopnnhjfcfhihaaDoor
open Go.RowKit Go.Deep
attribute [local go_sem] str_size str_append str_toList str_get str_extract
set_option linter.unusedVariables false
set_option linter.unusedSimpArgs false

theorem byte_info : (Tryd.prog.info? 5).map (fun i => (i.zero, i.size, i.bytes)) = some (some (.int .u8 0), 1, 1) := by kernel_rfl
/-- 'string(b)' of a row of the call's own. -/
theorem conv_mine {P : Program} (W : World) (src dst e : TypeId) (hs : P.underlying src = some (.slice e)) (he : P.underlying e = some (.int .u8)) (hd : P.underlying dst = some .string)
    (B : Nat) (l : List UInt8) (A : Option Addr) (n cap : Nat) (hn : n = l.length) (hr : W.ownsRow B e 1 (.slice A n cap) n (l.map fun b => .int .u8 (b.toNat : Int))) :
    (convert src dst (.slice A n cap)).run P W = .ok (.string (str l)) W := by
  subst hn
  rcases hr.2 with ⟨h, h0⟩ | ⟨g, c, cur, h, _⟩
  · injection h with h1 h2 h3
    subst h1 h3
    have hl : l = [] := List.eq_nil_of_length_eq_zero h0
    subst hl
    rw [run_convert_bytes_string W src dst e none _ _ hs he hd]
    simp [Conv.bytesToString]
    rfl
  · injection h with h1 h2 h3
    subst h1 h3
    refine run_convert_bytes_back W src dst e ⟨g, 0, none⟩ cap l hs he hd (fun j hj => ?_)
    exact hr.cells (g := g) rfl j _ (by simp [hj])
/-- A row of bytes of the call's own, from block B on. -/
def HasY (B : Nat) (v : Value) (l : List UInt8) (w : World) : Prop := ∃ g cap, v = .slice (some ⟨g, 0, none⟩) l.length cap ∧ w.ownsRow B 5 1 v l.length (l.map fun b => .int .u8 (b.toNat : Int))
theorem HasY.of {B g cap n : Nat} {l : List UInt8} {xs : List Value} {w : World} (h : w.ownsRow B 5 1 (.slice (some ⟨g, 0, none⟩) n cap) n xs) (hn : n = l.length) (hx : xs = l.map fun b => .int .u8 (b.toNat : Int)) : HasY B (.slice (some ⟨g, 0, none⟩) n cap) l w := by
  subst hn hx; exact ⟨g, cap, rfl, h⟩
/-- A row of bytes that the call has just made. -/
theorem own_new (w : World) (e : TypeId) (cs : Array Value) (n : Nat) (h : cs.size = n) (hm : n ≤ maxLen) : (w.alloc (.cells cs e)).ownsRow w.heap.size e 1 (.slice (some ⟨w.heap.size, 0, none⟩) n n) n cs.toList :=
  ⟨by simp [h], .inr ⟨_, _, cs, rfl, Nat.le_refl _, heap_alloc_new _ _, Nat.le_refl _, hm, by omega, by rw [← h, Nat.mul_one]; exact List.take_length⟩⟩
theorem ownLow {w : World} {base : Nat} {e : TypeId} {size : Nat} {v : Value} {n : Nat} {xs : List Value} (h : w.ownsRow base e size v n xs) : ∀ k, v.ownBlock = some k → base ≤ k := by
  intro k hk
  rcases h.2 with ⟨rfl, _⟩ | ⟨g, c, cur, rfl, hg, _⟩
  · simp [Value.ownBlock] at hk
  · simp [Value.ownBlock] at hk; omega
theorem cells_two_new (w : World) (x y : Value) (t : TypeId) : ∀ j u, [x, y][j]? = some u → (w.alloc (.cells #[x, y] t)).cell? ((⟨w.heap.size, 0, none⟩ : Addr).add j) = some u := by
  intro j u hj
  match j, hj with
  | 0, hj => simp at hj; subst hj; simp [Addr.add, World.cell?_alloc_mark]
  | 1, hj => simp at hj; subst hj; simp [Addr.add, World.cell?_alloc_mark]
  | j + 2, hj => simp at hj
theorem quoteC_of {c : UInt8} {l : List UInt8} (h : l = quoteC c) : quoteC c = l := h.symm
theorem quote_c (s : List UInt8) (w : World) (hs : s.length ≤ 1048576) : Calls Tryd.prog 44 #[.string (str s)] w fun e w' => e = .returned (.string (str (quoteL s))) ∧ Below w.heap.size w w' := by
  obtain ⟨i0, hi0, hz0, hz1, hz2⟩ := info_parts byte_info
  obtain ⟨R, hR⟩ : ∃ R, quoteL s = R := ⟨_, rfl⟩
  rw [hR]
  have HR := Lib.hid hR
  clear hR
  go_enter Tryd.func44, Tryd.ntmps44
  go_wp2_with fail
  go_loopw [3, 8] (fun v c wr => ∃ i : Nat, i ≤ s.length ∧ c = .int .i64 i ∧ HasY w.heap.size v (34 :: quoteB (s.take i)) wr ∧ Below w.heap.size w wr) (fun _ c _ => s.length - (intOf c).toNat)
  case atStart =>
    refine ⟨0, Nat.zero_le _, rfl, ?_, (Below.refl _ _).alloc (Nat.le_refl _) _⟩
    exact ⟨_, _, rfl, own_new w _ #[.int .u8 34] 1 rfl (by unfold maxLen; omega)⟩
  case round =>
    obtain ⟨i, hi, rfl, ⟨g, cap, rfl, hown⟩, hb⟩ := hrel
    have hql := quoteB_len (s.take i)
    rw [List.length_take, Nat.min_eq_left hi] at hql
    have hsz := hb.size
    by_cases hlt : i < s.length
    · have hst := quoteB_take s i hlt
      obtain ⟨x, hx⟩ : ∃ x, s[i] = x := ⟨_, rfl⟩
      rw [hx] at hst
      obtain ⟨L, hL⟩ : ∃ L, 34 :: quoteB (s.take i) = L := ⟨_, rfl⟩
      have hLl : L.length ≤ 2 * s.length + 1 := by rw [← hL, List.length_cons]; omega
      have HS : Hid (34 :: quoteB (s.take (i + 1)) = L ++ quoteC x) := by show _ = _; rw [hst, ← hL]; rfl
      rw [hL] at hown ⊢
      clear hst hL hql
      have HO := fun cs => Lib.hid (hown.alloc (.cells cs 5))
      have hxl : x.toNat < 256 := x.toNat_lt
      have hrow : ∀ k, (Value.slice (some ⟨g, 0, none⟩) L.length cap).ownBlock = some k → w.heap.size ≤ k := ownLow hown
      clear hown
      by_cases h1 : x.toNat = 34
      · have t1 : (((x.toNat : Nat) : Int) == 34) = true := by simp [h1]
        have HQ : Hid (quoteC x = [92, 34]) := by show _ = _; unfold quoteC; rw [if_pos h1]
        go_wp2_with (at_builtin; refine wpList_append_lies _ rfl (.tmp 23) (.tmp 27) 63 rfl w.heap.size 5 i0 (.int .u8 0) 1 1 Tryd.underlying63 hi0 hz0 hz1 hz2 rfl (by decide) _ L.length _ rfl (HO _).out ⟨wr.heap.size, 0, none⟩ 2 2 [.int .u8 92, .int .u8 34] rfl rfl ?c1 ?c2 (by decide) ?c3 ?c4 ?c5 _ rfl ?c6)
        case c1 => first | exact cell_one_new _ _ _ | exact cells_two_new _ _ _ _
        case c2 => intro u hu; simp at hu; first | (subst hu; rfl) | (rcases hu with rfl | rfl <;> rfl)
        case c3 => unfold maxLen; omega
        case c4 => omega
        case c5 => simp; omega
        case c6 =>
          intro g1 cap1 w1 hown1 hg1 _ hl1
          go_wp2_with fail
          go_roundw
          case rel =>
            refine ⟨i + 1, by omega, by go_num, ?_, ?_⟩
            · rw [HS.out]; exact HasY.of hown1 (by rw [HQ.out]; simp) (by rw [HQ.out]; simp)
            · exact (hb.alloc hsz _).grown hg1 (by simp; omega) hrow
          case measure => simp [intOf]; omega
      · have t1 : (((x.toNat : Nat) : Int) == 34) = false := by simp; omega
        by_cases h2 : x.toNat = 92
        · have t2 : (((x.toNat : Nat) : Int) == 92) = true := by simp [h2]
          have HQ : Hid (quoteC x = [92, 92]) := by show _ = _; unfold quoteC; rw [if_neg h1, if_pos h2]
          go_wp2_with (at_builtin; refine wpList_append_lies _ rfl (.tmp 23) (.tmp 27) 63 rfl w.heap.size 5 i0 (.int .u8 0) 1 1 Tryd.underlying63 hi0 hz0 hz1 hz2 rfl (by decide) _ L.length _ rfl (HO _).out ⟨wr.heap.size, 0, none⟩ 2 2 [.int .u8 92, .int .u8 92] rfl rfl ?c1 ?c2 (by decide) ?c3 ?c4 ?c5 _ rfl ?c6)
          case c1 => first | exact cell_one_new _ _ _ | exact cells_two_new _ _ _ _
          case c2 => intro u hu; simp at hu; first | (subst hu; rfl) | (rcases hu with rfl | rfl <;> rfl)
          case c3 => unfold maxLen; omega
          case c4 => omega
          case c5 => simp; omega
          case c6 =>
            intro g1 cap1 w1 hown1 hg1 _ hl1
            go_wp2_with fail
            go_roundw
            case rel =>
              refine ⟨i + 1, by omega, by go_num, ?_, ?_⟩
              · rw [HS.out]; exact HasY.of hown1 (by rw [HQ.out]; simp) (by rw [HQ.out]; simp)
              · exact (hb.alloc hsz _).grown hg1 (by simp; omega) hrow
            case measure => simp [intOf]; omega
        · have t2 : (((x.toNat : Nat) : Int) == 92) = false := by simp; omega
          by_cases h3 : x.toNat = 10
          · have t3 : (((x.toNat : Nat) : Int) == 10) = true := by simp [h3]
            have HQ : Hid (quoteC x = [92, 110]) := by show _ = _; unfold quoteC; rw [if_neg h1, if_neg h2, if_pos h3]
            go_wp2_with (at_builtin; refine wpList_append_lies _ rfl (.tmp 31) (.tmp 32) 63 rfl w.heap.size 5 i0 (.int .u8 0) 1 1 Tryd.underlying63 hi0 hz0 hz1 hz2 rfl (by decide) _ L.length _ rfl (HO _).out ⟨wr.heap.size, 0, none⟩ 2 2 [.int .u8 92, .int .u8 110] rfl rfl ?c1 ?c2 (by decide) ?c3 ?c4 ?c5 _ rfl ?c6)
            case c1 => first | exact cell_one_new _ _ _ | exact cells_two_new _ _ _ _
            case c2 => intro u hu; simp at hu; first | (subst hu; rfl) | (rcases hu with rfl | rfl <;> rfl)
            case c3 => unfold maxLen; omega
            case c4 => omega
            case c5 => simp; omega
            case c6 =>
              intro g1 cap1 w1 hown1 hg1 _ hl1
              go_wp2_with fail
              go_roundw
              case rel =>
                refine ⟨i + 1, by omega, by go_num, ?_, ?_⟩
                · rw [HS.out]; exact HasY.of hown1 (by rw [HQ.out]; simp) (by rw [HQ.out]; simp)
                · exact (hb.alloc hsz _).grown hg1 (by simp; omega) hrow
              case measure => simp [intOf]; omega
          · have t3 : (((x.toNat : Nat) : Int) == 10) = false := by simp; omega
            have HQ : Hid (quoteC x = [x]) := by show _ = _; unfold quoteC; rw [if_neg h1, if_neg h2, if_neg h3]
            go_wp2_with (at_builtin; refine wpList_append_lies _ rfl (.tmp 14) (.tmp 18) 63 rfl w.heap.size 5 i0 (.int .u8 0) 1 1 Tryd.underlying63 hi0 hz0 hz1 hz2 rfl (by decide) _ L.length _ rfl (HO _).out ⟨wr.heap.size, 0, none⟩ 1 1 [.int .u8 (x.toNat : Int)] rfl rfl ?c1 ?c2 (by decide) ?c3 ?c4 ?c5 _ rfl ?c6)
            case c1 => first | exact cell_one_new _ _ _ | exact cells_two_new _ _ _ _
            case c2 => intro u hu; simp at hu; first | (subst hu; rfl) | (rcases hu with rfl | rfl <;> rfl)
            case c3 => unfold maxLen; omega
            case c4 => omega
            case c5 => simp; omega
            case c6 =>
              intro g1 cap1 w1 hown1 hg1 _ hl1
              go_wp2_with fail
              go_roundw
              case rel =>
                refine ⟨i + 1, by omega, by go_num, ?_, ?_⟩
                · rw [HS.out]; exact HasY.of hown1 (by rw [HQ.out]; simp) (by rw [HQ.out]; simp)
                · exact (hb.alloc hsz _).grown hg1 (by simp; omega) hrow
              case measure => simp [intOf]; omega
    · obtain rfl : i = s.length := by omega
      obtain ⟨L, hL⟩ : ∃ L, 34 :: quoteB (s.take s.length) = L := ⟨_, rfl⟩
      have hLl : L.length ≤ 2 * s.length + 1 := by rw [← hL, List.length_cons]; omega
      have HR' : Hid (R = L ++ [34]) := by show _ = _; rw [← HR.out, ← hL, List.take_length]; rfl
      rw [hL] at hown ⊢
      clear hL hql
      have HO := fun cs => Lib.hid (hown.alloc (.cells cs 5))
      have hrow : ∀ k, (Value.slice (some ⟨g, 0, none⟩) L.length cap).ownBlock = some k → w.heap.size ≤ k := ownLow hown
      clear hown
      go_wp2_with (at_builtin; refine wpList_append_lies _ rfl (.tmp 35) (.tmp 36) 63 rfl w.heap.size 5 i0 (.int .u8 0) 1 1 Tryd.underlying63 hi0 hz0 hz1 hz2 rfl (by decide) _ L.length _ rfl (HO _).out ⟨wr.heap.size, 0, none⟩ 1 1 [.int .u8 34] rfl rfl ?c1 ?c2 (by decide) ?c3 ?c4 ?c5 _ rfl ?c6)
      case c1 => exact cell_one_new _ _ _
      case c2 => intro u hu; simp at hu; subst hu; rfl
      case c3 => unfold maxLen; omega
      case c4 => omega
      case c5 => simp; omega
      case c6 =>
        intro g1 cap1 w1 hown1 hg1 _ hl1
        have hcv := conv_mine (P := Tryd.prog) w1 63 9 5 Tryd.underlying63 Tryd.underlying5 Tryd.underlying9 w.heap.size (L ++ [34]) _ (L.length + 1) cap1 (by simp) (by simpa using hown1)
        clear hown1
        go_wp2_with fail
        go_ret
        exact ⟨ret_str HR'.out.symm, (hb.alloc hsz _).grown hg1 (by simp; omega) hrow⟩
end Go.Proofs.YtopnnhjfcfhihaaDoor
