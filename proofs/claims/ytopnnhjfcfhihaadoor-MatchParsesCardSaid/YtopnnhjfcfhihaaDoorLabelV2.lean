/-
  Layer 4 (label): values: what the document's own Value returns; all that was in memory stays.
-/
import Derived.Test.YtopnnhjfcfhihaaDoorLabelV
import Derived.Test.YtopnnhjfcfhihaaDoorLabelR
namespace Go.Proofs.YtopnnhjfcfhihaaDoor
open Go.RowKit Go.Deep
attribute [local go_sem] str_size str_append str_toList str_get str_extract
set_option linter.unusedVariables false
set_option linter.unusedSimpArgs false
theorem refValue_c (s : List UInt8) (w : World) (hs : s.length ≤ 1099511627776) : Calls Tryd.prog 23 #[.string (str s)] w fun e w' => e = .returned (.bool (valueL s)) ∧ w = w' := by
  by_cases h32 : 32 < (s.length : Int)
  · rw [valueL_long (by omega)]
    go_enter Tryd.func23, Tryd.ntmps23
    go_wp2
    go_ret
    exact ⟨rfl, rfl⟩
  rw [valueL_of (by omega)]
  obtain ⟨R, hR⟩ : ∃ R, utfL s.length s = R := ⟨_, rfl⟩
  rw [hR]
  have HR := Lib.hid hR
  clear hR
  go_enter Tryd.func23, Tryd.ntmps23
  go_wp2_with fail
  go_loopw [0] (fun a wr => ∃ t : List UInt8, a = .string (str t) ∧ t.length ≤ s.length ∧ Hid (utfL t.length t = R) ∧ w = wr) (fun a _ => match a with | .string b => b.size | _ => 0)
  case atStart => exact ⟨s, rfl, Nat.le_refl _, HR.out, rfl⟩
  case round =>
    obtain ⟨t, rfl, hl, HI, rfl⟩ := hrel
    by_cases h0 : t.length = 0
    · obtain rfl : t = [] := List.eq_nil_of_length_eq_zero h0
      have e := HI.out
      rw [utf_nil] at e
      subst e
      go_wp2_with fail
      go_ret
      exact ⟨rfl, rfl⟩
    · have h00 : (0 : Int) < (t.length : Int) := by omega
      have hne : t ≠ [] := fun e => h0 (by rw [e]; rfl)
      have hw := fun W => wide_c t W (by omega) (by omega)
      have hle := wide_le hne
      have hbad := fun h => utf_bad hne h
      have hstep := fun h => utf_step hne h
      obtain ⟨k, hk⟩ : ∃ k, wideL t = k := ⟨_, rfl⟩
      rw [hk] at hw hle hbad hstep
      by_cases hz : k = 0
      · subst hz
        have e := hbad rfl
        rw [HI.out] at e
        subst e
        clear hbad hstep hk hne
        go_wp2_with (go_at_call 41; refine (hw _).mono ?_; rintro e w1 ⟨rfl, rfl⟩)
        go_ret
        exact ⟨rfl, rfl⟩
      · have e := hstep hz
        rw [HI.out] at e
        have HE := Lib.hid e
        have t1 : ((k : Int) == 0) = false := by rw [beq_eq_false_iff_ne]; omega
        have htk : (t.drop k).take (t.length - k) = t.drop k := List.take_of_length_le (by rw [List.length_drop]; omega)
        have hkp : 0 < k := by omega
        clear hbad hstep hk hne e hz h0
        go_wp2_with (go_at_call 41; refine (hw _).mono ?_; rintro e w1 ⟨rfl, rfl⟩)
        go_roundw
        case rel => exact ⟨t.drop k, rfl, by rw [List.length_drop]; omega, HE.out.symm, by first | rfl | trivial⟩
        case measure => simp only [str_size, List.length_drop]; omega
end Go.Proofs.YtopnnhjfcfhihaaDoor
