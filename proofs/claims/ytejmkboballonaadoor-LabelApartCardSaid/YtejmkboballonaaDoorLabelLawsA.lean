/-
  Layer 4 (label): the law LabelApart returns true.
-/
import Derived.Test.YtejmkboballonaaDoorLabelP
import Derived.Test.YtejmkboballonaaDoorLabelKey
import Derived.Test.YtejmkboballonaaDoorLabelRKey
namespace Go.Proofs.YtejmkboballonaaDoor
open Go.RowKit Go.Deep
attribute [local go_sem] str_size str_append str_toList str_get str_extract
set_option linter.unusedVariables false
set_option linter.unusedSimpArgs false
set_option maxHeartbeats 1000000 in
theorem law_LabelApart (a0 : Option Addr) (len0 cap0 : Nat) (z0 : List Lab) (a1 : Option Addr) (len1 cap1 : Nat) (z1 : List Lab) (w : World) (hl0 : len0 ≤ maxLen) (w0 : LAt w a0 len0 z0) (hl1 : len1 ≤ maxLen) (w1 : LAt w a1 len1 z1) (hT : Lib.Utf8Tabs 0 1 w) :
    Calls Tryd.prog 6 #[.slice a0 len0 cap0, .slice a1 len1 cap1] w fun e w' => e = .returned (.bool true) ∧ Below w.heap.size w w' := by
  unfold maxLen at hl0 hl1
  have e0 := w0.1
  have e1 := w1.1
  subst e0 e1
  have h0 := fun W h => heavy_c a0 z0.length cap0 z0 W (by omega) h
  have h1 := fun W h => heavy_c a1 z1.length cap1 z1 W (by omega) h
  cases hH0 : heavyL z0 with
  | true =>
    rw [hH0] at h0
    go_enter Tryd.func6, Tryd.ntmps6
    go_wp2_with (first | (go_at_call_of 14 (Value.slice a0 z0.length cap0); refine (h0 _ w0).mono ?_; rintro e w2 ⟨rfl, hb2⟩))
    go_ret
    exact ⟨rfl, hb2⟩
  | false =>
  rw [hH0] at h0
  obtain ⟨s0, y0⟩ := heavy_small hH0
  cases hH1 : heavyL z1 with
  | true =>
    rw [hH1] at h1
    go_enter Tryd.func6, Tryd.ntmps6
    go_wp2_with fail
    refine (h0 _ w0).mono ?_
    rintro e w2 ⟨rfl, hb2⟩
    go_wp2_with fail
    refine (h1 _ (w1.below hb2)).mono ?_
    rintro e w3 ⟨rfl, hb3⟩
    go_wp2_with fail
    go_ret
    exact ⟨rfl, below2 hb2 hb3 hb2.size⟩
  | false =>
  rw [hH1] at h1
  obtain ⟨s1, y1⟩ := heavy_small hH1
  have p0 := fun W ha ht => print_c a0 z0.length cap0 z0 W (by omega) ha y0 ht
  have p1 := fun W ha ht => print_c a1 z1.length cap1 z1 W (by omega) ha y1 ht
  have k0 := fun W ha ht => key_c a0 z0.length cap0 z0 W (by omega) ha y0 ht
  have k1 := fun W ha ht => key_c a1 z1.length cap1 z1 W (by omega) ha y1 ht
  have r0 := fun W ha => refPrint_c a0 z0.length cap0 z0 W (by omega) ha y0
  have sm := fun W ha hb => refSame_c a0 a1 z0.length z1.length cap0 cap1 z0 z1 W (by omega) (by omega) ha hb
  have nm := fun W => name_c [97] W (by simp)
  rw [show nameL [97] = true by decide] at nm
  clear hH0 hH1 y0 y1
  have fin : ∀ (o0 o1 : Bool) (S0 S1 K0 K1 : List UInt8) (d : Bool), okL z0 = o0 → okL z1 = o1 →
      (if o0 = true then printL z0 else []) = S0 → (if o1 = true then printL z1 else []) = S1 → (if o0 = true then keyL z0 else []) = K0 → (if o1 = true then keyL z1 else []) = K1 → decide (z0 = z1) = d →
      (o0 = true → o1 = true → (S0 == S1) = d ∧ (K0 == K1) = d) := by
    intro o0 o1 S0 S1 K0 K1 d h1 h2 h3 h4 h5 h6 h7 ho0 ho1
    subst ho0 ho1
    rw [if_pos rfl] at h3 h4 h5 h6
    subst h3 h4 h5 h6 h7
    constructor
    · rw [Bool.eq_iff_iff]; simp only [beq_iff_eq, decide_eq_true_eq]
      exact ⟨fun h => printL_inj h1 h2 h, fun h => by rw [h]⟩
    · rw [Bool.eq_iff_iff]; simp only [beq_iff_eq, decide_eq_true_eq]
      exact ⟨fun h => keyL_inj _ _ (okL_small h1) (okL_small h2) h, fun h => by rw [h]⟩
  obtain ⟨o0, ho0⟩ : ∃ o, okL z0 = o := ⟨_, rfl⟩
  obtain ⟨o1, ho1⟩ : ∃ o, okL z1 = o := ⟨_, rfl⟩
  rw [ho0] at p0 k0 r0
  rw [ho1] at p1 k1
  obtain ⟨S0, hS0⟩ : ∃ S, (if o0 = true then printL z0 else []) = S := ⟨_, rfl⟩
  obtain ⟨S1, hS1⟩ : ∃ S, (if o1 = true then printL z1 else []) = S := ⟨_, rfl⟩
  obtain ⟨K0, hK0⟩ : ∃ S, (if o0 = true then keyL z0 else []) = S := ⟨_, rfl⟩
  obtain ⟨K1, hK1⟩ : ∃ S, (if o1 = true then keyL z1 else []) = S := ⟨_, rfl⟩
  obtain ⟨d, hd⟩ : ∃ d, decide (z0 = z1) = d := ⟨_, rfl⟩
  have FIN := Lib.hid (fin o0 o1 S0 S1 K0 K1 d ho0 ho1 hS0 hS1 hK0 hK1 hd)
  rw [hS0] at p0 r0
  rw [hS1] at p1
  rw [hK0] at k0
  rw [hK1] at k1
  rw [hd] at sm
  have W0 := Lib.hid w0
  have W1 := Lib.hid w1
  clear hS0 hS1 hK0 hK1 hd ho0 ho1 fin
  go_enter Tryd.func6, Tryd.ntmps6
  go_wp2_with fail
  refine (h0 _ w0).mono ?_
  rintro e w2 ⟨rfl, hb2⟩
  go_wp2_with fail
  refine (h1 _ (w1.below hb2)).mono ?_
  rintro e w3 ⟨rfl, hb3⟩
  have g3 := below2 hb2 hb3 hb2.size
  go_wp2_with fail
  refine (p0 _ (w0.below g3) (Utf8Tabs_below hT g3)).mono ?_
  rintro e w4 ⟨rfl, hb4⟩
  have g4 := below2 g3 hb4 g3.size
  go_wp2_with fail
  refine (p1 _ (w1.below g4) (Utf8Tabs_below hT g4)).mono ?_
  rintro e w5 ⟨rfl, hb5⟩
  have g5 := below2 g4 hb5 g4.size
  go_wp2_with fail
  refine (k0 _ (w0.below g5) (Utf8Tabs_below hT g5)).mono ?_
  rintro e w6 ⟨rfl, hb6⟩
  have g6 := below2 g5 hb6 g5.size
  go_wp2_with fail
  refine (k1 _ (w1.below g6) (Utf8Tabs_below hT g6)).mono ?_
  rintro e w7 ⟨rfl, hb7⟩
  have g7 := below2 g6 hb7 g6.size
  go_wp2_with fail
  refine (r0 _ (w0.below g7)).mono ?_
  rintro e w8 ⟨rfl, hb8⟩
  have g8 := below2 g7 hb8 g7.size
  clear hb2 hb3 hb4 hb5 hb6 hb7 hb8 g3 g4 g5 g6 g7 p0 p1 k0 k1 r0 h0 h1
  have x0 : eOf true = 0 := rfl
  have x1 : eOf false = 40 := rfl
  cases o0 with
  | false =>
    rw [x1]
    go_wp2_with (go_at_call 8; refine (nm _).mono ?_; rintro e w9 ⟨rfl, hb9⟩)
    go_ret
    exact ⟨rfl, below2 g8 hb9 g8.size⟩
  | true =>
  cases o1 with
  | false =>
    rw [x0, x1]
    go_wp2_with (go_at_call 8; refine (nm _).mono ?_; rintro e w9 ⟨rfl, hb9⟩)
    go_ret
    exact ⟨rfl, below2 g8 hb9 g8.size⟩
  | true =>
    rw [x0]
    obtain ⟨f1, f2⟩ := FIN.out rfl rfl
    go_wp2_with (go_at_call 21; refine (sm _ (W0.out.below g8) (W1.out.below g8)).mono ?_; rintro e w9 ⟨rfl, hb9⟩)
    go_ret
    exact ⟨by simp, below2 g8 hb9 g8.size⟩
end Go.Proofs.YtejmkboballonaaDoor
