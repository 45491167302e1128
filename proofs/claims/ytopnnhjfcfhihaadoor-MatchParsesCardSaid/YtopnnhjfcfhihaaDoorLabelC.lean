/-
  Layer 4 (label): what the program's Check returns; all that was in memory stays.
-/
import Derived.Test.YtopnnhjfcfhihaaDoorLabelV2
import Derived.Test.YtopnnhjfcfhihaaDoorLabelForm
import Derived.Test.YtopnnhjfcfhihaaDoorLabelMem
namespace Go.Proofs.YtopnnhjfcfhihaaDoor
open Go.RowKit Go.Deep
attribute [local go_sem] str_size str_append str_toList str_get str_extract
set_option linter.unusedVariables false
set_option linter.unusedSimpArgs false
set_option maxHeartbeats 1000000 in
theorem check_c (A : Option Addr) (len cap : Nat) (l : List Lab) (w : World) (hl : len ≤ 140737488355328) (hA : LAt w A len l) (hz : ∀ x ∈ l, x.1.length ≤ 16384 ∧ x.2.length ≤ 16384) (hT : Lib.Utf8Tabs 1 2 w) :
    Calls Tryd.prog 83 #[.slice A len cap] w fun e w' => e = .returned (.int .i64 (eOf (okL l))) ∧ Below w.heap.size w w' := by
  have hle := hA.1
  subst hle
  by_cases h8 : 8 < (l.length : Int)
  · rw [okL_long (by omega)]
    go_enter Tryd.func83, Tryd.ntmps83
    go_wp2
    go_ret
    exact ⟨rfl, Below.refl _ _⟩
  rw [okL_of (by omega)]
  obtain ⟨R, hR⟩ : ∃ R, okFrom [] l = R := ⟨_, rfl⟩
  rw [hR]
  have HR := Lib.hid hR
  clear hR
  go_enter Tryd.func83, Tryd.ntmps83
  go_wp2_with fail
  go_loopw [3, 11] (fun a c wr => ∃ i : Nat, ∃ p : List UInt8, i ≤ l.length ∧ c = .int .i64 i ∧ a = .string (str p) ∧ p.length ≤ 16384 ∧ Hid (okFrom p (l.drop i) = R) ∧ Below w.heap.size w wr) (fun _ c _ => l.length - (intOf c).toNat)
  case atStart => exact ⟨0, [], Nat.zero_le _, rfl, rfl, by simp, HR.out, Below.refl _ _⟩
  case round =>
    obtain ⟨i, p, hi, rfl, rfl, hp, HI, hb⟩ := hrel
    have hsz := hb.size
    by_cases hlt : i < l.length
    · obtain ⟨-, ad, rfl, h2, h3, h4⟩ := (hA.below hb).2 i hlt
      have hT2 := Utf8Tabs_below hT hb
      have hst := okFrom_at (a := p) hlt
      rw [HI.out] at hst
      obtain ⟨z1, z2⟩ := hz _ (List.getElem_mem hlt)
      obtain ⟨x, hx⟩ : ∃ x, l[i]'hlt = x := ⟨_, rfl⟩
      rw [hx] at hst h3 h4 z1 z2
      obtain ⟨n, v⟩ := x
      simp only at hst h3 h4 z1 z2
      have hord := less_trans_like n p
      have HST := Lib.hid hst
      have HORD := Lib.hid hord
      have c1 := fun W => name_c n W (by omega)
      have c2 := fun W h => value_c v W (by omega) h
      have hq0 := blk_new wr (.cells #[.string (str n), .string (str v)] 40)
      have hTa : Lib.Utf8Tabs 1 2 (wr.alloc (.cells #[.string (str n), .string (str v)] 40)) := Utf8Tabs_below hT2 ((Below.refl _ _).alloc (Nat.le_refl _) _)
      have hba : Below w.heap.size w (wr.alloc (.cells #[.string (str n), .string (str v)] 40)) := hb.alloc hsz _
      have hsa : w.heap.size ≤ (wr.alloc (.cells #[.string (str n), .string (str v)] 40)).heap.size := by simp; omega
      clear hst hord hx
      cases hN : nameL n with
      | false =>
        have e := HST.out
        rw [hN, Bool.false_and] at e
        subst e
        rw [hN] at c1
        clear hN c2 hTa
        go_wp2_with (go_at_call 20; refine (c1 _).mono ?_; rintro e w1 ⟨rfl, hb1⟩; have hq1 : w1.heap[wr.heap.size]? = some (.cells #[.string (str n), .string (str v)] 40 (0, 0)) := (hb1.block _ (by simp)).trans hq0; have d0 := blk_cell hq1 0; have d1 := blk_cell hq1 1; simp only [List.getElem?_toArray, List.getElem?_cons_zero, List.getElem?_cons_succ] at d0 d1)
        go_ret
        exact ⟨rfl, hba.trans (hb1.mono hsa)⟩
      | true =>
      rw [hN] at c1
      cases hV : valueL v with
      | false =>
        have e := HST.out
        rw [hN, hV, Bool.true_and, Bool.false_and] at e
        subst e
        rw [hV] at c2
        clear hN hV
        go_wp2_with (first | (go_at_call 20; refine (c1 _).mono ?_; rintro e w1 ⟨rfl, hb1⟩; have hq1 : w1.heap[wr.heap.size]? = some (.cells #[.string (str n), .string (str v)] 40 (0, 0)) := (hb1.block _ (by simp)).trans hq0; have d0 := blk_cell hq1 0; have d1 := blk_cell hq1 1; simp only [List.getElem?_toArray, List.getElem?_cons_zero, List.getElem?_cons_succ] at d0 d1) | (go_at_call 40; refine (c2 _ (Utf8Tabs_below hTa hb1)).mono ?_; rintro e w2 ⟨rfl, hb2⟩; have hq2 : w2.heap[wr.heap.size]? = some (.cells #[.string (str n), .string (str v)] 40 (0, 0)) := (hb2.block _ (lt_of_block hq1)).trans hq1; have f0 := blk_cell hq2 0; have f1 := blk_cell hq2 1; simp only [List.getElem?_toArray, List.getElem?_cons_zero, List.getElem?_cons_succ] at f0 f1))
        go_ret
        exact ⟨rfl, (hba.trans (hb1.mono hsa)).trans (hb2.mono (by have := hb1.size; omega))⟩
      | true =>
      rw [hV] at c2
      have hne := nameL_ne hN
      by_cases hv0 : v = []
      · have e := HST.out
        rw [hN, hV, Bool.true_and, Bool.true_and, hv0] at e
        simp only [beq_self_eq_true, Bool.not_true, Bool.false_and] at e
        subst e
        clear hN hV
        have tv : (v == []) = true := by rw [hv0]; rfl
        clear hv0
        go_wp2_with (first | (go_at_call 20; refine (c1 _).mono ?_; rintro e w1 ⟨rfl, hb1⟩; have hq1 : w1.heap[wr.heap.size]? = some (.cells #[.string (str n), .string (str v)] 40 (0, 0)) := (hb1.block _ (by simp)).trans hq0; have d0 := blk_cell hq1 0; have d1 := blk_cell hq1 1; simp only [List.getElem?_toArray, List.getElem?_cons_zero, List.getElem?_cons_succ] at d0 d1) | (go_at_call 40; refine (c2 _ (Utf8Tabs_below hTa hb1)).mono ?_; rintro e w2 ⟨rfl, hb2⟩; have hq2 : w2.heap[wr.heap.size]? = some (.cells #[.string (str n), .string (str v)] 40 (0, 0)) := (hb2.block _ (lt_of_block hq1)).trans hq1; have f0 := blk_cell hq2 0; have f1 := blk_cell hq2 1; simp only [List.getElem?_toArray, List.getElem?_cons_zero, List.getElem?_cons_succ] at f0 f1))
        go_ret
        exact ⟨rfl, (hba.trans (hb1.mono hsa)).trans (hb2.mono (by have := hb1.size; omega))⟩
      have tv : (v == []) = false := by rw [beq_eq_false_iff_ne]; exact hv0
      cases hL : Op.bytesLess p n with
      | false =>
        have e := HST.out
        rw [hN, hV, hL, Bool.true_and, Bool.true_and, tv, Bool.false_and, Bool.and_false] at e
        subst e
        have tl : (Op.bytesLess n p || n == p) = true := by have := HORD.out; rw [hL] at this; revert this; generalize (Op.bytesLess n p || n == p) = q; cases q <;> simp
        clear hN hV hL hv0
        go_wp2_with (first | (go_at_call 20; refine (c1 _).mono ?_; rintro e w1 ⟨rfl, hb1⟩; have hq1 : w1.heap[wr.heap.size]? = some (.cells #[.string (str n), .string (str v)] 40 (0, 0)) := (hb1.block _ (by simp)).trans hq0; have d0 := blk_cell hq1 0; have d1 := blk_cell hq1 1; simp only [List.getElem?_toArray, List.getElem?_cons_zero, List.getElem?_cons_succ] at d0 d1) | (go_at_call 40; refine (c2 _ (Utf8Tabs_below hTa hb1)).mono ?_; rintro e w2 ⟨rfl, hb2⟩; have hq2 : w2.heap[wr.heap.size]? = some (.cells #[.string (str n), .string (str v)] 40 (0, 0)) := (hb2.block _ (lt_of_block hq1)).trans hq1; have f0 := blk_cell hq2 0; have f1 := blk_cell hq2 1; simp only [List.getElem?_toArray, List.getElem?_cons_zero, List.getElem?_cons_succ] at f0 f1))
        go_ret
        exact ⟨rfl, (hba.trans (hb1.mono hsa)).trans (hb2.mono (by have := hb1.size; omega))⟩
      | true =>
        have e := HST.out
        rw [hN, hV, hL, Bool.true_and, Bool.true_and, tv, Bool.true_and, Bool.not_false, Bool.true_and] at e
        have HE := Lib.hid e
        have tl : (Op.bytesLess n p || n == p) = false := by have := HORD.out; rw [hL] at this; revert this; generalize (Op.bytesLess n p || n == p) = q; cases q <;> simp
        clear hN hV hL hv0 e
        go_wp2_with (first | (go_at_call 20; refine (c1 _).mono ?_; rintro e w1 ⟨rfl, hb1⟩; have hq1 : w1.heap[wr.heap.size]? = some (.cells #[.string (str n), .string (str v)] 40 (0, 0)) := (hb1.block _ (by simp)).trans hq0; have d0 := blk_cell hq1 0; have d1 := blk_cell hq1 1; simp only [List.getElem?_toArray, List.getElem?_cons_zero, List.getElem?_cons_succ] at d0 d1) | (go_at_call 40; refine (c2 _ (Utf8Tabs_below hTa hb1)).mono ?_; rintro e w2 ⟨rfl, hb2⟩; have hq2 : w2.heap[wr.heap.size]? = some (.cells #[.string (str n), .string (str v)] 40 (0, 0)) := (hb2.block _ (lt_of_block hq1)).trans hq1; have f0 := blk_cell hq2 0; have f1 := blk_cell hq2 1; simp only [List.getElem?_toArray, List.getElem?_cons_zero, List.getElem?_cons_succ] at f0 f1))
        go_roundw
        case rel => exact ⟨i + 1, n, by omega, by go_num, rfl, z1, HE.out.symm, (hba.trans (hb1.mono hsa)).trans (hb2.mono (by have := hb1.size; omega))⟩
        case measure => simp [intOf]; omega
    · obtain rfl : i = l.length := by omega
      have e := HI.out
      rw [okFrom_end] at e
      subst e
      go_wp2_with fail
      go_ret
      exact ⟨rfl, hb⟩
end Go.Proofs.YtopnnhjfcfhihaaDoor
