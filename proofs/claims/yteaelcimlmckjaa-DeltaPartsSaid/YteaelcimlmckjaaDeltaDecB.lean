/-
  Layer 3 (delta): the program's Decode, the rest of it.
-/
import Derived.Test.YteaelcimlmckjaaDeltaDec
namespace Go.Proofs.Yteaelcimlmckjaa
open Go.RowKit Go.Deep
attribute [local go_sem] str_size str_append str_toList str_get str_extract
set_option linter.unusedVariables false
set_option linter.unusedSimpArgs false

/-- What Decode answers. -/
def Decoded : Option (List Smp) → Ending → World → Prop
  | none, e, _ => e = .returned (.tuple #[.slice none 0 0, .int .i64 11])
  | some l, e, w' => ∃ A cap, e = .returned (.tuple #[.slice A l.length cap, .int .i64 0]) ∧ SAt w' A l.length l ∧ l.length ≤ 5000
set_option maxRecDepth 100000 in
set_option maxHeartbeats 1000000 in
theorem decode_c (s : List UInt8) (w : World) (hs : s.length ≤ 281474976710656) :
    Calls Try.prog 11 #[.string (str s)] w fun e w' => Decoded (decD s) e w' ∧ Below w.heap.size w w' := by
  have hg := guess_c s w hs
  obtain ⟨R, hR⟩ : ∃ R, decD s = R := ⟨_, rfl⟩
  rw [hR]
  rw [← decG_eq] at hR
  unfold decG at hR
  cases hgd : gD s with
  | none =>
    rw [hgd] at hR hg
    simp only at hR
    have HR := Lib.hid hR
    have HG := Lib.hid hg
    clear hR hg hgd
    go_enter Try.func11, Try.ntmps11
    go_wp2_with fail
    refine HG.out.mono ?_
    rintro e w1 ⟨⟨er, hne, rfl⟩, hb1⟩
    have hb : (er == 0) = false := by simp [hne]
    clear hne
    go_wp2_with fail
    go_ret2
    refine ⟨?_, hb1⟩
    rw [← HR.out]
    rfl
  | some l =>
    rw [hgd] at hR hg
    simp only at hR
    have HR := Lib.hid hR
    have HG := Lib.hid hg
    clear hR hg hgd
    go_enter Try.func11, Try.ntmps11
    go_wp2_with fail
    refine HG.out.mono ?_
    rintro e w1 ⟨⟨A, cap, rfl, hS, hl⟩, hb1⟩
    have E1 := Lib.hid (encode_c A l.length cap l w1 (by unfold maxLen; omega) hS)
    have HS := Lib.hid (And.intro hS hl)
    obtain ⟨er, her⟩ : ∃ x, dE l = x := ⟨_, rfl⟩
    obtain ⟨en, hen⟩ : ∃ x, dEnc l = x := ⟨_, rfl⟩
    have HR2 := HR.out
    have E2 := E1.out
    rw [her, hen] at HR2 E2
    have HR2 := Lib.hid HR2
    have E2 := Lib.hid E2
    clear hS hl her hen
    by_cases h1 : er = 0
    · have b1 : (er == 0) = true := by simp [h1]
      have b1' : (er != 0) = false := by simp [h1]
      by_cases h2 : en = s
      · have b2 : (en == s) = true := beq_iff_eq.2 h2
        have hr := HR2.out
        rw [if_pos ⟨h1, h2⟩] at hr
        have HX := Lib.hid hr
        clear h1 h2 hr
        go_wp2_with fail
        refine E2.out.mono ?_
        rintro e w2 ⟨rfl, hb2⟩
        go_wp2_with fail
        go_ret2
        refine ⟨?_, below2 hb1 hb2 hb1.size⟩
        rw [← HX.out]
        exact ⟨A, cap, rfl, HS.out.1.below hb2, HS.out.2⟩
      · have b2 : (en == s) = false := by rw [beq_eq_false_iff_ne]; exact h2
        have hr := HR2.out
        rw [if_neg (fun h => h2 h.2)] at hr
        have HX := Lib.hid hr
        clear h1 h2 hr
        go_wp2_with fail
        refine E2.out.mono ?_
        rintro e w2 ⟨rfl, hb2⟩
        go_wp2_with fail
        go_ret2
        refine ⟨?_, below2 hb1 hb2 hb1.size⟩
        rw [← HX.out]
        rfl
    · have b1 : (er == 0) = false := by simp [h1]
      have b1' : (er != 0) = true := by simp [h1]
      have hr := HR2.out
      rw [if_neg (fun h => h1 h.1)] at hr
      have HX := Lib.hid hr
      clear h1 hr
      go_wp2_with fail
      refine E2.out.mono ?_
      rintro e w2 ⟨rfl, hb2⟩
      go_wp2_with fail
      go_ret2
      refine ⟨?_, below2 hb1 hb2 hb1.size⟩
      rw [← HX.out]
      rfl
end Go.Proofs.Yteaelcimlmckjaa
