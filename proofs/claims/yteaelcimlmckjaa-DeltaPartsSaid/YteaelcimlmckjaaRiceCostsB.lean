/-
  Layer 2 (rice): RiceCosts: the document's own answer, and the law.
-/
import Derived.Test.YteaelcimlmckjaaRiceCosts
namespace Go.Proofs.Yteaelcimlmckjaa
open Go.RowKit Go.Deep
attribute [local go_sem] str_size str_append str_toList str_get str_extract
set_option linter.unusedVariables false
set_option linter.unusedSimpArgs false

theorem refCost_c (A : Option Addr) (len cap : Nat) (xs : List Nat) (k : Int) (w : World) (hl : xs.length ≤ 100000) (hU : UAt w A len xs) :
    Calls Try.prog 29 #[.slice A len cap, .int .i64 k] w fun e w' => e = .returned (.int .i64 (costF xs k)) ∧ Below w.heap.size w w' := by
  by_cases h0 : k < 0 ∨ 40 < k
  · have he : costF xs k = 0 := by unfold costF; rw [if_pos h0]
    rw [he]
    clear he
    rcases h0 with h0 | h0
    all_goals
      go_enter Try.func29, Try.ntmps29
      go_wp2_with fail
      go_ret
      exact ⟨rfl, Below.refl _ _⟩
  · obtain ⟨k, rfl⟩ : ∃ m : Nat, k = m := ⟨k.toNat, by omega⟩
    rw [costF_ok xs k (by omega)]
    have hb1 : decide ((k : Int) < 0) = false := by simp
    have hb2 : decide (40 < (k : Int)) = false := by simp; omega
    have hlen := hU.1
    have hll : len ≤ 100000 := by omega
    go_enter Try.func29, Try.ntmps29
    go_wp2_with fail
    go_loopw [5, 6] (fun s c wr => ∃ i : Nat, i ≤ len ∧ c = .int .i64 i ∧ s = .int .i64 (costN (xs.take i) k) ∧ Below w.heap.size w wr) (fun _ c _ => len - (intOf c).toNat)
    case atStart => exact ⟨0, Nat.zero_le _, rfl, by simp [costN], Below.refl _ _⟩
    case round =>
      obtain ⟨i, hi, rfl, rfl, hb⟩ := hrel
      by_cases hlt : i < len
      · obtain ⟨hn, ad, rfl, hadl, hcell⟩ := (hU.below hb).2 i (by omega)
        have hadd := costN_take xs k i (by omega)
        have hle := costN_le (xs.take i) k (by omega)
        have hcl := code_le (xs[i]'(by omega)) k (by omega)
        have hti : (xs.take i).length ≤ 100000 := by rw [List.length_take]; omega
        obtain ⟨x, hx⟩ : ∃ x, xs[i]'(by omega) = x := ⟨_, rfl⟩
        rw [hx] at hn hcell hadd hcl
        obtain ⟨c0, hc0⟩ : ∃ c, costN (xs.take i) k = c := ⟨_, rfl⟩
        obtain ⟨c1, hc1⟩ : ∃ c, (code x k).length = c := ⟨_, rfl⟩
        rw [hc0] at hadd hle ⊢
        rw [hc1] at hadd hcl
        have HA := Lib.hid hadd
        have HC1 := Lib.hid hc1
        have hc0l : c0 ≤ 8800000 := by omega
        have hsz := hb.size
        clear hadd hle hc0 hc1 hx hlen
        go_wp2_with fail
        refine (code_c x k _ (by omega) hn).mono ?_
        rintro e w1 ⟨⟨v1, rfl, ⟨g1, cap1, rfl⟩, hown1⟩, hb1⟩
        rw [HC1.out]
        clear hown1
        have hb2 := below2 hb hb1 hsz
        go_wp2_with fail
        go_roundw
        case rel => exact ⟨i + 1, by omega, by go_num, by rw [HA.out]; go_num, hb2⟩
        case measure => simp [intOf]; omega
      · have hix : i = xs.length := by omega
        have hil : i = len := by omega
        subst hil
        have ht : xs.take i = xs := by rw [hix, List.take_length]
        rw [ht]
        clear ht hix hlen
        go_wp2_with fail
        go_ret
        exact ⟨rfl, hb⟩
theorem refBest_c (A : Option Addr) (len cap : Nat) (xs : List Nat) (w : World) (hl : xs.length ≤ 100000) (hU : UAt w A len xs) :
    Calls Try.prog 20 #[.slice A len cap] w fun e w' => e = .returned (.int .i64 (bestTo xs 40)) ∧ Below w.heap.size w w' := by
  go_enter Try.func20, Try.ntmps20
  go_wp2_with fail
  go_loopw [3, 4] (fun b c wr => ∃ k : Nat, 1 ≤ k ∧ k ≤ 41 ∧ c = .int .i64 k ∧ b = .int .i64 (bestTo xs (k - 1)) ∧ Below w.heap.size w wr) (fun _ c _ => 41 - (intOf c).toNat)
  case atStart => exact ⟨1, by omega, by omega, rfl, rfl, Below.refl _ _⟩
  case round =>
    obtain ⟨k, hk1, hk41, rfl, rfl, hb⟩ := hrel
    by_cases hlt : k ≤ 40
    · obtain ⟨m, rfl⟩ : ∃ m, k = m + 1 := ⟨k - 1, by omega⟩
      rw [Nat.add_sub_cancel]
      have hbl := bestTo_le xs m
      have hst : bestTo xs (m + 1) = if costN xs (m + 1) < costN xs (bestTo xs m) then m + 1 else bestTo xs m := rfl
      have hU1 := hU.below hb
      have h1 := refCost_c A len cap xs ((m + 1 : Nat) : Int) wr hl hU1
      rw [costF_ok xs _ (by omega)] at h1
      have h2 := fun (W : World) (h : UAt W A len xs) => refCost_c A len cap xs ((bestTo xs m : Nat) : Int) W hl h
      rw [costF_ok xs _ (by omega)] at h2
      obtain ⟨c, hc⟩ : ∃ c, costN xs (m + 1) = c := ⟨_, rfl⟩
      obtain ⟨b, hbe⟩ : ∃ b, bestTo xs m = b := ⟨_, rfl⟩
      obtain ⟨l, hle⟩ : ∃ l, costN xs b = l := ⟨_, rfl⟩
      rw [hbe, hle, hc] at hst
      rw [hc] at h1
      rw [hbe, hle] at h2
      rw [hbe]
      have H1 := Lib.hid h1
      have H2 : Hid (∀ (W : World) (h : UAt W A len xs), _) := h2
      have hsz := hb.size
      by_cases hcl : c < l
      case' pos =>
        rw [if_pos hcl] at hst
        have HS := Lib.hid hst
      case' neg =>
        rw [if_neg hcl] at hst
        have HS := Lib.hid hst
        have hge : ¬ ((c : Int) < (l : Int)) := by omega
      all_goals
        clear hst h1 h2 hc hbe hle hbl
        go_wp2_with fail
        refine H1.out.mono ?_
        rintro e w1 ⟨rfl, hb1⟩
        go_wp2_with fail
        refine (H2.out w1 (hU1.below hb1)).mono ?_
        rintro e w2 ⟨rfl, hb2⟩
        have hb3 := below2 (below2 hb hb1 hsz) hb2 (Nat.le_trans hsz hb1.size)
        go_wp2_with fail
        go_roundw
        case rel => exact ⟨m + 2, by omega, by omega, by go_num, by rw [show m + 2 - 1 = m + 1 by omega, HS.out] <;> go_num, hb3⟩
        case measure => simp [intOf]; omega
    · obtain rfl : k = 41 := by omega
      go_wp2_with fail
      go_ret
      exact ⟨rfl, hb⟩
end Go.Proofs.Yteaelcimlmckjaa
