/-
  Layer 2 (rice): RiceCosts: what numbers cost with any k, and the best k.
-/
import Derived.Test.YteaelcimlmckjaaRiceRef
import Derived.Test.YteaelcimlmckjaaBest
import Derived.Deep.RegionHeld3
import Derived.OpenShut
namespace Go.Proofs.Yteaelcimlmckjaa
open Go.RowKit Go.Deep
attribute [local go_sem] str_size str_append str_toList str_get str_extract
set_option linter.unusedVariables false
set_option linter.unusedSimpArgs false

/-- A slice of 64-bit numbers that was there. -/
def UAt (w : World) (A : Option Addr) (len : Nat) (xs : List Nat) : Prop :=
  len = xs.length ∧ ∀ i (h : i < xs.length), xs[i] < 18446744073709551616 ∧ ∃ ad, A = some ad ∧ ad.block < w.heap.size ∧ w.cell? (ad.add i) = some (.int .u64 (xs[i] : Int))
theorem UAt.below {w w' : World} {A : Option Addr} {len : Nat} {xs : List Nat} (h : UAt w A len xs) (hb : Below w.heap.size w w') : UAt w' A len xs :=
  ⟨h.1, fun i hi => by
    obtain ⟨h1, ad, rfl, h2, h3⟩ := h.2 i hi
    refine ⟨h1, ad, rfl, Nat.lt_of_lt_of_le h2 hb.size, (hb.cell (p := ad.add i) ?_).trans h3⟩
    have e : (ad.add i).block = ad.block := by unfold Addr.add; split <;> rfl
    rw [e]; exact h2⟩
theorem UAt.drew {w : World} {A : Option Addr} {len : Nat} {xs : List Nat} (h : UAt w A len xs) : UAt w.drew A len xs := h
theorem size_c (n k : Nat) (w : World) (hn : n < 18446744073709551616) (hk : k ≤ 40) : Calls Try.prog 62 #[.int .u64 n, .int .i64 k] w fun e w' => e = .returned (.int .i64 (code n k).length) ∧ w = w' := by
  have hq := div_int n k
  have hcl := code_length n k
  obtain ⟨q, hqe⟩ : ∃ q, n / 2 ^ k = q := ⟨_, rfl⟩
  rw [hqe] at hq hcl
  have hqn : q ≤ n := by rw [← hqe]; exact Nat.div_le_self _ _
  by_cases h : 24 ≤ q
  · rw [if_pos h] at hcl
    rw [hcl]
    clear hcl hqe
    go_enter Try.func62, Try.ntmps62
    go_wp2
    go_ret
    exact ⟨rfl, rfl⟩
  · rw [if_neg h] at hcl
    rw [hcl]
    clear hcl hqe
    go_enter Try.func62, Try.ntmps62
    go_wp2
    go_ret
    exact ⟨ret_int (by omega), rfl⟩
theorem closure_c (b k : Nat) (A : Option Addr) (len cap : Nat) (xs : List Nat) (w : World) (hl : xs.length ≤ 100000) (hk : k ≤ 40) (hc : w.cell? ⟨b, 0, none⟩ = some (.slice A len cap)) (hU : UAt w A len xs) :
    Calls Try.prog 61 #[.int .i64 k, .pointer (some ⟨b, 0, none⟩)] w fun e w' => e = .returned (.int .i64 (costN xs k)) ∧ w = w' := by
  obtain ⟨rfl, hx⟩ := hU
  go_enter Try.func61, Try.ntmps61
  go_wp2_with fail
  go_loop [4, 9] (fun s c => ∃ i : Nat, i ≤ xs.length ∧ c = .int .i64 i ∧ s = .int .i64 (costN (xs.take i) k)) (fun _ c => xs.length - (intOf c).toNat)
  case atStart => exact ⟨0, Nat.zero_le _, rfl, by simp [costN]⟩
  case round =>
    obtain ⟨i, hi, rfl, rfl⟩ := hrel
    by_cases hlt : i < xs.length
    · obtain ⟨hn, ad, rfl, hb, hcell⟩ := hx i hlt
      have hadd := costN_take xs k i hlt
      have hle := costN_le (xs.take i) k hk
      have hcl := code_le xs[i] k hk
      have hti : (xs.take i).length ≤ 100000 := by rw [List.length_take]; omega
      obtain ⟨c0, hc0⟩ : ∃ c, costN (xs.take i) k = c := ⟨_, rfl⟩
      obtain ⟨c1, hc1⟩ : ∃ c, (code xs[i] k).length = c := ⟨_, rfl⟩
      rw [hc0] at hadd hle ⊢
      have hs := size_c xs[i] k w hn hk
      rw [hc1] at hadd hcl hs
      have HS := Lib.hid hs
      have HA := Lib.hid hadd
      have hc0l : c0 ≤ 8800000 := by omega
      clear hx hadd hs hle hc0 hc1
      go_wp2_with fail
      refine HS.out.mono ?_
      rintro e w' ⟨rfl, rfl⟩
      go_wp2_with fail
      go_round
      case rel => exact ⟨i + 1, by omega, by go_num, by rw [HA.out]; go_num⟩
      case measure => simp [intOf]; omega
    · obtain rfl : i = xs.length := by omega
      rw [List.take_length]
      go_wp2_with fail
      go_ret
      exact ⟨rfl, rfl⟩
theorem costs_c (A : Option Addr) (len cap : Nat) (w : World) :
    Calls Try.prog 55 #[.slice A len cap] w fun e w' => e = .returned (.func (.func 61) #[] #[.pointer (some ⟨w.heap.size, 0, none⟩)]) ∧ w' = w.alloc (.cells #[.slice A len cap] 45) := by
  go_enter Try.func55, Try.ntmps55
  go_wp2_with fail
  go_ret
  exact ⟨rfl, rfl⟩
theorem best_c (A : Option Addr) (len cap : Nat) (xs : List Nat) (w : World) (hl : xs.length ≤ 100000) (hU : UAt w A len xs) :
    Calls Try.prog 42 #[.slice A len cap] w fun e w' => e = .returned (.int .i64 (bestTo xs 40)) ∧ Below w.heap.size w w' := by
  have hb : Below w.heap.size w (w.alloc (.cells #[.slice A len cap] 45)) := (Below.refl _ _).alloc (Nat.le_refl _) _
  have hU1 := hU.below hb
  have hcl := fun (k : Nat) (hk : k ≤ 40) => closure_c w.heap.size k A len cap xs (w.alloc (.cells #[.slice A len cap] 45)) hl hk (blk_cell (blk_new w _) 0) hU1
  have HC : Hid (∀ (k : Nat) (hk : k ≤ 40), _) := hcl
  clear hcl
  go_enter Try.func42, Try.ntmps42
  go_wp2_with fail
  refine (costs_c A len cap _).mono ?_
  rintro e w' ⟨rfl, rfl⟩
  go_wp2_with fail
  refine (HC.out 0 (by omega)).mono ?_
  rintro e w' ⟨rfl, rfl⟩
  go_wp2_with fail
  go_loop [4, 5, 6] (fun b l c => ∃ k : Nat, 1 ≤ k ∧ k ≤ 41 ∧ c = .int .i64 k ∧ b = .int .i64 (bestTo xs (k - 1)) ∧ l = .int .i64 (costN xs (bestTo xs (k - 1)))) (fun _ _ c => 41 - (intOf c).toNat)
  case atStart => exact ⟨1, by omega, by omega, rfl, rfl, rfl⟩
  case round =>
    obtain ⟨k, hk1, hk41, rfl, rfl, rfl⟩ := hrel
    by_cases hlt : k ≤ 40
    · obtain ⟨m, rfl⟩ : ∃ m, k = m + 1 := ⟨k - 1, by omega⟩
      rw [Nat.add_sub_cancel]
      have hcall := HC.out (m + 1) hlt
      have hst : bestTo xs (m + 1) = if costN xs (m + 1) < costN xs (bestTo xs m) then m + 1 else bestTo xs m := rfl
      obtain ⟨c, hc⟩ : ∃ c, costN xs (m + 1) = c := ⟨_, rfl⟩
      obtain ⟨b, hbe⟩ : ∃ b, bestTo xs m = b := ⟨_, rfl⟩
      obtain ⟨l, hle⟩ : ∃ l, costN xs b = l := ⟨_, rfl⟩
      rw [hbe, hle, hc] at hst
      rw [hc] at hcall
      rw [hbe, hle]
      have HCA := Lib.hid hcall
      have hm : (((m + 1 : Nat) : Int)) = (m : Int) + 1 := by omega
      by_cases hcl : c < l
      · rw [if_pos hcl] at hst
        have HS := Lib.hid (And.intro hst hc)
        clear hst hcall hc hbe hle hm
        go_wp2_with fail
        refine HCA.out.mono ?_
        rintro e w' ⟨rfl, rfl⟩
        go_wp2_with fail
        go_round
        case rel => exact ⟨m + 2, by omega, by omega, by go_num, by rw [show m + 2 - 1 = m + 1 by omega, HS.out.1]; go_num, by rw [show m + 2 - 1 = m + 1 by omega, HS.out.1, HS.out.2]⟩
        case measure => simp [intOf]; omega
      · rw [if_neg hcl] at hst
        have HS := Lib.hid (And.intro hst hle)
        have hge : ¬ ((c : Int) < (l : Int)) := by omega
        clear hst hcall hc hbe hle hm
        go_wp2_with fail
        refine HCA.out.mono ?_
        rintro e w' ⟨rfl, rfl⟩
        go_wp2_with fail
        go_round
        case rel => exact ⟨m + 2, by omega, by omega, by go_num, by rw [show m + 2 - 1 = m + 1 by omega, HS.out.1], by rw [show m + 2 - 1 = m + 1 by omega, HS.out.1, HS.out.2]⟩
        case measure => simp [intOf]; omega
    · obtain rfl : k = 41 := by omega
      go_wp2_with fail
      go_ret
      exact ⟨rfl, hb⟩
end Go.Proofs.Yteaelcimlmckjaa
