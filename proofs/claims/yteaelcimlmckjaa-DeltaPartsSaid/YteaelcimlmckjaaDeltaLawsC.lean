/-
  Layer 3 (delta): any samples have the document's bytes, or are refused; what is encoded is decoded.
-/
import Derived.Test.YteaelcimlmckjaaDeltaDecB
import Derived.Test.YteaelcimlmckjaaDeltaRef
import Derived.Test.YteaelcimlmckjaaSmps
namespace Go.Proofs.Yteaelcimlmckjaa
open Go.RowKit Go.Deep
attribute [local go_sem] str_size str_append str_toList str_get str_extract
set_option linter.unusedVariables false
set_option linter.unusedSimpArgs false

theorem most_c (n : Nat) (w : World) (h : n ≤ 100000) : Calls Try.prog 13 #[.int .i64 n] w fun e w' => e = .returned (.int .i64 (25 + 22 * (n : Int))) ∧ w = w' := by
  have h1 : IntKind.i64.wrap (22 * (n : Int)) = 22 * (n : Int) := IntWalk.i64_in _ (by omega)
  have h2 : IntKind.i64.wrap (25 + 22 * (n : Int)) = 25 + 22 * (n : Int) := IntWalk.i64_in _ (by omega)
  have h3 : max (n : Int) 0 = (n : Int) := by omega
  have h4 : min (n : Int) 1099511627776 = (n : Int) := by omega
  go_enter Try.func13, Try.ntmps13
  go_wp2
  go_ret
  exact ⟨ret_int (by omega), rfl⟩
theorem vals_of {w : World} {A : Option Addr} {len : Nat} {l : List Smp} (h : SAt w A len l) : vals64 l := fun s hs => by
  obtain ⟨i, hi, rfl⟩ := List.getElem_of_mem hs
  obtain ⟨⟨_, _, h3, h4⟩, _⟩ := h.2 i hi
  exact ⟨h3, h4⟩
set_option maxRecDepth 100000 in
set_option maxHeartbeats 1000000 in
theorem law_DeltaEncodes (a0 : Option Addr) (len0 cap0 : Nat) (z0 : List Smp) (w : World) (hl0 : len0 ≤ maxLen) (w0 : SAt w a0 len0 z0) :
    Calls Try.prog 3 #[.slice a0 len0 cap0] w fun e w' => e = .returned (.bool true) ∧ Below w.heap.size w w' := by
  unfold maxLen at hl0
  by_cases h200 : 200 < (len0 : Int)
  · go_enter Try.func3, Try.ntmps3
    go_wp2
    go_ret
    exact ⟨rfl, Below.refl _ _⟩
  · have hd : decide (200 < (len0 : Int)) = false := by simpa using h200
    have hle := w0.1
    have hlS : z0.length ≤ 100000 := by omega
    have hV := vals_of w0
    have C1 := encode_c a0 len0 cap0 z0 w (by unfold maxLen; omega) w0
    have C2 := fun W (h : Below w.heap.size w W) => refDEnc_c a0 len0 cap0 z0 W (by unfold maxLen; omega) (w0.below h)
    obtain ⟨s, hs⟩ : ∃ s, dEnc z0 = s := ⟨_, rfl⟩
    obtain ⟨er, her⟩ : ∃ s, dE z0 = s := ⟨_, rfl⟩
    simp only [her, hs] at C1 C2
    by_cases hE : er = 0
    · have hE0 : dE z0 = 0 := by rw [her, hE]
      have hD := decD_back _ hE0 hV
      have hM := dEnc_most _ hE0 hV
      rw [hs] at hD hM
      have C3 := fun W => decode_c s W (by omega)
      rw [hD] at C3
      have hm1 : decide ((s.length : Int) ≤ 25 + 22 * (len0 : Int)) = true := by simp; omega
      have HP := Lib.hid hM.2
      have C5 := Lib.hid (fun W => most_c len0 W (by omega))
      have b1 : (er == 0) = true := by simp [hE]
      have b2 : (er != 0) = false := by simp [hE]
      have C1 := Lib.hid C1
      have C2 := Lib.hid C2
      have C3 := Lib.hid C3
      have HA := Lib.hid (And.intro w0 (And.intro hlS hle))
      clear h200 hle hlS hV hs her hE hE0 hD hM w0
      go_enter Try.func3, Try.ntmps3
      go_wp2_with fail
      refine C1.out.mono ?_
      rintro e w1 ⟨rfl, hb1⟩
      go_wp2_with fail
      refine (C2.out _ hb1).mono ?_
      rintro e w2 ⟨rfl, hb2⟩
      have hb12 := below2 hb1 hb2 hb1.size
      go_wp2_with fail
      refine (C3.out _).mono ?_
      rintro e w3 ⟨⟨A2, cap2, rfl, hS2, hl5⟩, hb3⟩
      have hb13 := below2 hb12 hb3 hb12.size
      rw [← HA.out.2.2] at hS2 ⊢
      have C4 := same_c A2 a0 len0 len0 cap2 cap0 z0 z0 w3 HA.out.2.1 HA.out.2.1 hS2 (HA.out.1.below hb13)
      rw [decide_eq_true rfl] at C4
      have C4 := Lib.hid C4
      clear C1 C2 C3 hS2 hl5
      go_wp2_with fail
      refine C4.out.mono ?_
      rintro e w4 ⟨rfl, hb4⟩
      go_wp2_with fail
      refine (C5.out _).mono ?_
      rintro e w5 ⟨rfl, rfl⟩
      go_wp2_with fail
      go_ret
      exact ⟨ret_bool (decide_eq_true HP.out), below2 hb13 hb4 hb13.size⟩
    · have hz : s = [] := by rw [← hs]; unfold dEnc; rw [if_neg (by rw [her]; exact hE)]
      have b1 : (er == 0) = false := by simp [hE]
      have b2 : (er != 0) = true := by simp [hE]
      subst hz
      have C1 := Lib.hid C1
      have C2 := Lib.hid C2
      clear h200 hle hlS hV hs her hE w0
      go_enter Try.func3, Try.ntmps3
      go_wp2_with fail
      refine C1.out.mono ?_
      rintro e w1 ⟨rfl, hb1⟩
      go_wp2_with fail
      refine (C2.out _ hb1).mono ?_
      rintro e w2 ⟨rfl, hb2⟩
      go_wp2_with fail
      go_ret
      exact ⟨rfl, below2 hb1 hb2 hb1.size⟩
end Go.Proofs.Yteaelcimlmckjaa
