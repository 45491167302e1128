/-
  Layer 4 (label): values: what the document's own Value returns; all that was in memory stays.
-/
import Derived.Test.YtejmkboballonaaDoorLabelV
import Derived.Test.YtejmkboballonaaDoorLabelR
namespace Go.Proofs.YtejmkboballonaaDoor
open Go.RowKit Go.Deep
attribute [local go_sem] str_size str_append str_toList str_get str_extract
set_option linter.unusedVariables false
set_option linter.unusedSimpArgs false
theorem refValue_c (s : List UInt8) (w : World) (hs : s.length ≤ 1099511627776) : Calls Tryd.prog 11 #[.string (str s)] w fun e w' => e = .returned (.bool (valueL s)) ∧ w = w' := by
  by_cases h32 : 32 < (s.length : Int)
  · rw [valueL_long (by omega)]
    go_enter Tryd.func11, Tryd.ntmps11
    go_wp2
    go_ret
    exact ⟨rfl, rfl⟩
  rw [valueL_of (by omega)]
  obtain ⟨R, hR⟩ : ∃ R, utfL s.length s = R := ⟨_, rfl⟩
  rw [hR]
  have HR := Lib.hid hR
  clear hR
  go_enter Tryd.func11, Tryd.ntmps11
  go_wp2_with fail
  go_loopw [0] (fun a wr => ∃ t : List UInt8, a = .string (str t) ∧ t.length ≤ s.length ∧ Hid (utfL t.length t = R) ∧ w = wr) (fun a _ => match a with | .string b => b.size | _ => 0)
  case atStart => exact ⟨s, rfl, Nat.le_refl _, HR.out, rfl⟩
  case round =>
    obtain ⟨t, rfl, hl, HI, rfl⟩ := hrel
    by_cases h0 : t.length = 0
    · obtain rfl : t = [] := List.eq_nil_of_length_eq_zero h0
      have e := HI.out
      rw [utf_nil] at e
      subst e
      go_wp2_with fail
      go_ret
      exact ⟨rfl, rfl⟩
    · have h00 : (0 : Int) < (t.length : Int) := by omega
      have hne : t ≠ [] := fun e => h0 (by rw [e]; rfl)
      have hw := fun W => wide_c t W (by omega) (by omega)
      have hle := wide_le hne
      have hbad := fun h => utf_bad hne h
      have hstep := fun h => utf_step hne h
      obtain ⟨k, hk⟩ : ∃ k, wideL t = k := ⟨_, rfl⟩
      rw [hk] at hw hle hbad hstep
      by_cases hz : k = 0
      · subst hz
        have e := hbad rfl
        rw [HI.out] at e
        subst e
        clear hbad hstep hk hne
        go_wp2_with (go_at_call 27; refine (hw _).mono ?_; rintro e w1 ⟨rfl, rfl⟩)
        go_ret
        exact ⟨rfl, rfl⟩
      · have e := hstep hz
        rw [HI.out] at e
        have HE := Lib.hid e
        have t1 : ((k : Int) == 0) = false := by rw [beq_eq_false_iff_ne]; omega
        have htk : (t.drop k).take (t.length - k) = t.drop k := List.take_of_length_le (by rw [List.length_drop]; omega)
        have hkp : 0 < k := by omega
        clear hbad hstep hk hne e hz h0
        go_wp2_with (go_at_call 27; refine (hw _).mono ?_; rintro e w1 ⟨rfl, rfl⟩)
        go_roundw
        case rel => exact ⟨t.drop k, rfl, by rw [List.length_drop]; omega, HE.out.symm, by first | rfl | trivial⟩
        case measure => simp only [str_size, List.length_drop]; omega
theorem law_LabelNames (a0 : ByteArray) (w : World) (w0 : a0.size ≤ maxLen) (hT : Lib.Utf8Tabs 0 1 w) :
    Calls Tryd.prog 3 #[.string a0] w fun e w' => e = .returned (.bool true) ∧ Below w.heap.size w w' := by
  obtain ⟨s, rfl⟩ := str_of a0
  rw [str_size] at w0
  unfold maxLen at w0
  by_cases hs : 1024 < (s.length : Int)
  · go_enter Tryd.func3, Tryd.ntmps3
    go_wp2
    go_ret
    exact ⟨rfl, Below.refl _ _⟩
  have c1 := fun W => name_c s W (by omega)
  have c2 := fun W => refName_c s W (by omega)
  have c3 := fun W h => value_c s W (by omega) h
  have c4 := fun W => refValue_c s W (by omega)
  have c5 := fun W => quote_c s W (by omega)
  have c6 := fun W => refQuote_c s W (by omega)
  obtain ⟨N, hN⟩ : ∃ N, nameL s = N := ⟨_, rfl⟩
  obtain ⟨V, hV⟩ : ∃ V, valueL s = V := ⟨_, rfl⟩
  obtain ⟨Q, hQ⟩ : ∃ Q, quoteL s = Q := ⟨_, rfl⟩
  rw [hN] at c1 c2
  rw [hV] at c3 c4
  rw [hQ] at c5 c6
  clear hN hV hQ
  go_enter Tryd.func3, Tryd.ntmps3
  go_wp2_with fail
  refine (c1 _).mono ?_
  rintro e w1 ⟨rfl, hb1⟩
  go_wp2_with fail
  refine (c2 _).mono ?_
  rintro e w2 ⟨rfl, rfl⟩
  go_wp2_with fail
  refine (c3 _ (Utf8Tabs_below hT hb1)).mono ?_
  rintro e w3 ⟨rfl, hb3⟩
  go_wp2_with fail
  refine (c4 _).mono ?_
  rintro e w4 ⟨rfl, rfl⟩
  go_wp2_with fail
  refine (c5 _).mono ?_
  rintro e w5 ⟨rfl, hb5⟩
  go_wp2_with fail
  refine (c6 _).mono ?_
  rintro e w6 ⟨rfl, rfl⟩
  go_wp2_with fail
  go_ret
  have k1 := below2 hb1 hb3 hb1.size
  exact ⟨by simp, below2 k1 hb5 k1.size⟩
end Go.Proofs.YtejmkboballonaaDoor
