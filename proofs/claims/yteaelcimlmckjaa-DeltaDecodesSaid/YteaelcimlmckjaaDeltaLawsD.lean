/-
  Layer 3 (delta): any bytes are the document's samples, or none; what they are has just these bytes.
-/
import Derived.Test.YteaelcimlmckjaaDeltaRefE
namespace Go.Proofs.Yteaelcimlmckjaa
open Go.RowKit Go.Deep
attribute [local go_sem] str_size str_append str_toList str_get str_extract
set_option linter.unusedVariables false
set_option linter.unusedSimpArgs false

theorem decD_nil : decD [] = none := by decide +kernel
theorem sAt_none (w : World) : SAt w none 0 [] := ⟨rfl, fun i hi => absurd hi (by simp)⟩
set_option maxRecDepth 100000 in
set_option maxHeartbeats 1000000 in
theorem law_DeltaDecodes (a0 : ByteArray) (w : World) (w0 : a0.size ≤ maxLen) :
    Calls Try.prog 4 #[.string a0] w fun e w' => e = .returned (.bool true) ∧ Below w.heap.size w w' := by
  obtain ⟨s, rfl⟩ : ∃ s, a0 = str s := str_of a0
  rw [str_size] at w0
  unfold maxLen at w0
  by_cases h200 : 1024 < (s.length : Int)
  · go_enter Try.func4, Try.ntmps4
    go_wp2
    go_ret
    exact ⟨rfl, Below.refl _ _⟩
  · have hd : decide (1024 < (s.length : Int)) = false := by simpa using h200
    have hsl : s.length ≤ 281474976710656 := by omega
    have C1 := decode_c s w hsl
    have C2 := fun W => refDecode_c s W hsl
    have C3 := fun W => decode_c [] W (by simp)
    rw [decD_nil] at C3
    have C3 := Lib.hid C3
    cases hD : decD s with
    | none =>
      rw [hD] at C1 C2
      have C1 := Lib.hid C1
      have C2 := Lib.hid C2
      clear hsl hD h200 w0
      go_enter Try.func4, Try.ntmps4
      go_wp2_with fail
      refine C1.out.mono ?_
      rintro e w1 ⟨rfl, hb1⟩
      go_wp2_with fail
      refine (C2.out _).mono ?_
      rintro e w2 ⟨rfl, hb2⟩
      have hb12 := below2 hb1 hb2 hb1.size
      go_wp2_with fail
      refine (C3.out _).mono ?_
      rintro e w3 ⟨rfl, hb3⟩
      have hb13 := below2 hb12 hb3 hb12.size
      have C4 := same_c none none 0 0 0 0 [] [] w3 (by simp) (by simp) (sAt_none w3) (sAt_none w3)
      rw [decide_eq_true rfl] at C4
      have C4 := Lib.hid C4
      clear C1 C2 C3
      go_wp2_with fail
      refine C4.out.mono ?_
      rintro e w4 ⟨rfl, hb4⟩
      have hb14 := below2 hb13 hb4 hb13.size
      have C5 := Lib.hid (encode_c none 0 0 [] w4 (by unfold maxLen; omega) (sAt_none w4))
      go_wp2_with fail
      refine C5.out.mono ?_
      rintro e w5 ⟨rfl, hb5⟩
      go_wp2_with fail
      go_ret
      exact ⟨rfl, below2 hb14 hb5 hb14.size⟩
    | some l =>
      rw [hD] at C1 C2
      obtain ⟨hE, hs⟩ := decD_only hD
      have C1 := Lib.hid C1
      have C2 := Lib.hid C2
      have HE := Lib.hid (And.intro hE hs)
      clear hsl hD h200 w0 hE hs
      go_enter Try.func4, Try.ntmps4
      go_wp2_with fail
      refine C1.out.mono ?_
      rintro e w1 ⟨⟨A1, cap1, rfl, hS1, hl1⟩, hb1⟩
      have HS1 := Lib.hid (And.intro hS1 hl1)
      clear hS1 hl1
      go_wp2_with fail
      refine (C2.out _).mono ?_
      rintro e w2 ⟨⟨A2, cap2, rfl, hS2, hl2⟩, hb2⟩
      have hb12 := below2 hb1 hb2 hb1.size
      have HS2 := Lib.hid (And.intro hS2 (HS1.out.1.below hb2))
      clear hS2 hl2
      go_wp2_with fail
      refine (C3.out _).mono ?_
      rintro e w3 ⟨rfl, hb3⟩
      have hb13 := below2 hb12 hb3 hb12.size
      have h5 := HS1.out.2
      have C4 := same_c A1 A2 l.length l.length cap1 cap2 l l w3 (by omega) (by omega) (HS2.out.2.below hb3) (HS2.out.1.below hb3)
      rw [decide_eq_true rfl] at C4
      have C4 := Lib.hid C4
      clear C1 C2 C3 h5
      go_wp2_with fail
      refine C4.out.mono ?_
      rintro e w4 ⟨rfl, hb4⟩
      have hb14 := below2 hb13 hb4 hb13.size
      have C5 := encode_c A1 l.length cap1 l w4 (by have := HS1.out.2; unfold maxLen; omega) ((HS2.out.2.below hb3).below hb4)
      rw [HE.out.1, HE.out.2] at C5
      have C5 := Lib.hid C5
      go_wp2_with fail
      refine C5.out.mono ?_
      rintro e w5 ⟨rfl, hb5⟩
      go_wp2_with fail
      go_ret
      exact ⟨rfl, below2 hb14 hb5 hb14.size⟩
end Go.Proofs.Yteaelcimlmckjaa
