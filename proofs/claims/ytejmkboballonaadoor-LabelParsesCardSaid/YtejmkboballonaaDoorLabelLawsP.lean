/-
  Layer 4 (label): the laws LabelPrints and LabelParses return true.
-/
import Derived.Test.YtejmkboballonaaDoorLabelW3
import Derived.Test.YtejmkboballonaaDoorLabelKey
import Derived.Test.YtejmkboballonaaDoorLabelRKey
namespace Go.Proofs.YtejmkboballonaaDoor
open Go.RowKit Go.Deep
attribute [local go_sem] str_size str_append str_toList str_get str_extract
set_option linter.unusedVariables false
set_option linter.unusedSimpArgs false
theorem maxLen_cell {w : World} (hS : w.ShapedOpen Tryd.prog) : ∃ m : Int, w.cell? ⟨2, 0, none⟩ = some (.int .i64 m) ∧ 2 < w.heap.size := by
  obtain ⟨m, hm⟩ := Tryd.laysM145.s1_3 w hS
  exact ⟨m, hm, World.block_lt_of_cell? w _ hm⟩
theorem parseL_nil : parseL [] = none := parseL_none (fun L _ h => by have := printL_two L; rw [h] at this; simp at this)
set_option maxHeartbeats 1000000 in
theorem law_LabelPrints (a0 : Option Addr) (len0 cap0 : Nat) (z0 : List Lab) (w : World) (hl0 : len0 ≤ maxLen) (w0 : LAt w a0 len0 z0) (hT : Lib.Utf8Tabs 0 1 w) (hS : w.ShapedOpen Tryd.prog) :
    Calls Tryd.prog 4 #[.slice a0 len0 cap0] w fun e w' => e = .returned (.bool true) ∧ Below w.heap.size w w' := by
  unfold maxLen at hl0
  obtain ⟨m, hm, hm2⟩ := maxLen_cell hS
  clear hS
  have e0 := w0.1
  subst e0
  have h0 := fun W h => heavy_c a0 z0.length cap0 z0 W (by omega) h
  cases hH0 : heavyL z0 with
  | true =>
    rw [hH0] at h0
    go_enter Tryd.func4, Tryd.ntmps4
    go_wp2_with fail
    refine (h0 _ w0).mono ?_
    rintro e w2 ⟨rfl, hb2⟩
    go_wp2_with fail
    go_ret
    exact ⟨rfl, hb2⟩
  | false =>
  rw [hH0] at h0
  obtain ⟨s0, y0⟩ := heavy_small hH0
  have p0 := fun W ha ht => print_c a0 z0.length cap0 z0 W (by omega) ha y0 ht
  have r0 := fun W ha => refPrint_c a0 z0.length cap0 z0 W (by omega) ha y0
  have k0 := fun W ha ht => key_c a0 z0.length cap0 z0 W (by omega) ha y0 ht
  have q0 := fun W ha => refKey_c a0 z0.length cap0 z0 W (by omega) ha y0
  have c0 := fun W ha ht => check_c a0 z0.length cap0 z0 W (by omega) ha y0 ht
  have W0 := Lib.hid w0
  have x0 : eOf true = 0 := rfl
  have x1 : eOf false = 40 := rfl
  clear hH0 y0
  cases hO : okL z0 with
  | false =>
    rw [hO, x1] at p0 r0 k0 q0 c0
    rw [if_neg (by decide)] at p0 r0 k0 q0
    go_enter Tryd.func4, Tryd.ntmps4
    go_wp2_with fail
    refine (h0 _ w0).mono ?_
    rintro e w2 ⟨rfl, hb2⟩
    go_wp2_with fail
    refine (p0 _ (w0.below hb2) (Utf8Tabs_below hT hb2)).mono ?_
    rintro e w3 ⟨rfl, hb3⟩
    have g3 := below2 hb2 hb3 hb2.size
    go_wp2_with fail
    refine (r0 _ (w0.below g3)).mono ?_
    rintro e w4 ⟨rfl, hb4⟩
    have g4 := below2 g3 hb4 g3.size
    go_wp2_with fail
    refine (k0 _ (w0.below g4) (Utf8Tabs_below hT g4)).mono ?_
    rintro e w5 ⟨rfl, hb5⟩
    have g5 := below2 g4 hb5 g4.size
    go_wp2_with fail
    refine (q0 _ (w0.below g5)).mono ?_
    rintro e w6 ⟨rfl, hb6⟩
    have g6 := below2 g5 hb6 g5.size
    clear hb2 hb3 hb4 hb5 hb6 g3 g4 g5 p0 r0 k0 q0 h0
    go_wp2_with (go_at_call 19; refine (c0 _ (W0.out.below g6) (Utf8Tabs_below hT g6)).mono ?_; rintro e w7 ⟨rfl, hb7⟩)
    go_ret
    exact ⟨by simp, below2 g6 hb7 g6.size⟩
  | true =>
    rw [hO, x0] at p0 r0 k0 q0 c0
    rw [if_pos rfl] at p0 r0 k0 q0
    have hl8 := okL_len hO
    have hpl := printL_len hO
    have hp2 := printL_two z0
    have hpar := parseL_some hO rfl
    have pc := fun W h1 h2 h3 => parse_c (printL z0) W (by omega) m h1 h2 h3
    rw [hpar] at pc
    obtain ⟨S, hSS⟩ : ∃ S, printL z0 = S := ⟨_, rfl⟩
    obtain ⟨K, hKK⟩ : ∃ K, keyL z0 = K := ⟨_, rfl⟩
    rw [hSS] at p0 r0 pc hpl hp2
    rw [hKK] at k0 q0
    have tS : (S != S) = false := by simp
    have tK : (K != K) = false := by simp
    have sm := fun W A cap ha hb => refSame_c A a0 z0.length z0.length cap cap0 z0 z0 W (by omega) (by omega) ha hb
    rw [show decide (z0 = z0) = true by simp] at sm
    have HM := Lib.hid (And.intro hm hm2)
    clear hpar hSS hKK hO hm hm2
    go_enter Tryd.func4, Tryd.ntmps4
    go_wp2_with fail
    refine (h0 _ w0).mono ?_
    rintro e w2 ⟨rfl, hb2⟩
    go_wp2_with fail
    refine (p0 _ (w0.below hb2) (Utf8Tabs_below hT hb2)).mono ?_
    rintro e w3 ⟨rfl, hb3⟩
    have g3 := below2 hb2 hb3 hb2.size
    go_wp2_with fail
    refine (r0 _ (w0.below g3)).mono ?_
    rintro e w4 ⟨rfl, hb4⟩
    have g4 := below2 g3 hb4 g3.size
    go_wp2_with fail
    refine (k0 _ (w0.below g4) (Utf8Tabs_below hT g4)).mono ?_
    rintro e w5 ⟨rfl, hb5⟩
    have g5 := below2 g4 hb5 g4.size
    go_wp2_with fail
    refine (q0 _ (w0.below g5)).mono ?_
    rintro e w6 ⟨rfl, hb6⟩
    have g6 := below2 g5 hb6 g5.size
    clear hb2 hb3 hb4 hb5 hb6 g3 g4 g5 p0 r0 k0 q0 h0
    go_wp2_with (go_at_call 19; refine (c0 _ (W0.out.below g6) (Utf8Tabs_below hT g6)).mono ?_; rintro e w7 ⟨rfl, hb7⟩)
    have g7 := below2 g6 hb7 g6.size
    refine (pc _ ((g7.cell (p := ⟨2, 0, none⟩) HM.out.2).trans HM.out.1) (Nat.lt_of_lt_of_le HM.out.2 g7.size) (Utf8Tabs_below hT g7)).mono ?_
    rintro e w8 ⟨⟨A, cap, rfl, hA8, _⟩, hb8⟩
    have g8 := below2 g7 hb8 g7.size
    have HA8 := Lib.hid hA8
    clear hb7 hb8 g6 g7 hA8 pc c0
    go_wp2_with (go_at_call 21; refine (sm _ A cap HA8.out (W0.out.below g8)).mono ?_; rintro e w9 ⟨rfl, hb9⟩)
    go_ret
    exact ⟨by simp; omega, below2 g8 hb9 g8.size⟩
set_option maxHeartbeats 1000000 in
theorem law_LabelParses (a0 : ByteArray) (w : World) (w0 : a0.size ≤ maxLen) (hT : Lib.Utf8Tabs 0 1 w) (hS : w.ShapedOpen Tryd.prog) :
    Calls Tryd.prog 5 #[.string a0] w fun e w' => e = .returned (.bool true) ∧ Below w.heap.size w w' := by
  obtain ⟨s, rfl⟩ := str_of a0
  rw [str_size] at w0
  unfold maxLen at w0
  obtain ⟨m, hm, hm2⟩ := maxLen_cell hS
  clear hS
  by_cases hs : 2048 < (s.length : Int)
  · go_enter Tryd.func5, Tryd.ntmps5
    go_wp2
    go_ret
    exact ⟨rfl, Below.refl _ _⟩
  have pc := fun W h1 h2 h3 => parse_c s W (by omega) m h1 h2 h3
  have pr := fun W => refParse_c s W (by omega)
  have pn := fun W h1 h2 h3 => parse_c [] W (by simp) m h1 h2 h3
  rw [parseL_nil] at pn
  have HM := Lib.hid (And.intro hm hm2)
  have hcell : ∀ W, Below w.heap.size w W → W.cell? ⟨2, 0, none⟩ = some (.int .i64 m) ∧ 2 < W.heap.size := fun W hW => ⟨(hW.cell (p := ⟨2, 0, none⟩) HM.out.2).trans HM.out.1, Nat.lt_of_lt_of_le HM.out.2 hW.size⟩
  have HC := Lib.hid hcell
  have x0 : eOf true = 0 := rfl
  clear hm hm2 hcell
  cases hP : parseL s with
  | none =>
    rw [hP] at pc pr
    have sm := fun W => refSame_c none none 0 0 0 0 [] [] W (by simp) (by simp) (LAt.nil _ _) (LAt.nil _ _)
    rw [show decide (([] : List Lab) = []) = true by simp] at sm
    have pp := fun W h => print_c none 0 0 [] W (by omega) (LAt.nil _ _) (by simp) h
    rw [printL_empty.1, if_pos rfl, printL_empty.2, x0] at pp
    go_enter Tryd.func5, Tryd.ntmps5
    go_wp2_with fail
    refine (pc _ (HC.out _ (Below.refl _ _)).1 (HC.out _ (Below.refl _ _)).2 hT).mono ?_
    rintro e w2 ⟨rfl, g2⟩
    go_wp2_with fail
    refine (pr _).mono ?_
    rintro e w3 ⟨rfl, hb3⟩
    have g3 := below2 g2 hb3 g2.size
    go_wp2_with fail
    refine (pn _ (HC.out _ g3).1 (HC.out _ g3).2 (Utf8Tabs_below hT g3)).mono ?_
    rintro e w4 ⟨rfl, hb4⟩
    have g4 := below2 g3 hb4 g3.size
    clear g2 g3 hb3 hb4 pc pr pn
    go_wp2_with (go_at_call 21; refine (sm _).mono ?_; rintro e w5 ⟨rfl, hb5⟩)
    have g5 := below2 g4 hb5 g4.size
    refine (pp _ (Utf8Tabs_below hT g5)).mono ?_
    rintro e w6 ⟨rfl, hb6⟩
    go_wp2_with fail
    go_ret
    exact ⟨by simp, below2 g5 hb6 g5.size⟩
  | some l =>
    rw [hP] at pc pr
    obtain ⟨hok, hpr⟩ := parseL_of hP
    have hl8 := okL_len hok
    have h32 := okL_32 hok
    have sm := fun W A B c d ha hb => refSame_c A B l.length l.length c d l l W (by omega) (by omega) ha hb
    rw [show decide (l = l) = true by simp] at sm
    have pp := fun W A c h1 h2 => print_c A l.length c l W (by omega) h1 (fun x hx => by have := h32 x hx; omega) h2
    rw [hok, if_pos rfl, hpr, x0] at pp
    have tS : (s == s) = true := by simp
    clear hok hpr hP h32
    go_enter Tryd.func5, Tryd.ntmps5
    go_wp2_with fail
    refine (pc _ (HC.out _ (Below.refl _ _)).1 (HC.out _ (Below.refl _ _)).2 hT).mono ?_
    rintro e w2 ⟨⟨A, cA, rfl, hA, _⟩, g2⟩
    go_wp2_with fail
    refine (pr _).mono ?_
    rintro e w3 ⟨⟨B, cB, rfl, hB, _⟩, hb3⟩
    have g3 := below2 g2 hb3 g2.size
    have hA3 := hA.below hb3
    go_wp2_with fail
    refine (pn _ (HC.out _ g3).1 (HC.out _ g3).2 (Utf8Tabs_below hT g3)).mono ?_
    rintro e w4 ⟨rfl, hb4⟩
    have g4 := below2 g3 hb4 g3.size
    have HA4 := Lib.hid (And.intro (hA3.below hb4) (hB.below hb4))
    clear g2 g3 hb3 hb4 pc pr pn hA hB hA3
    go_wp2_with (go_at_call 21; refine (sm _ A B cA cB HA4.out.1 HA4.out.2).mono ?_; rintro e w5 ⟨rfl, hb5⟩)
    have g5 := below2 g4 hb5 g4.size
    refine (pp _ A cA (HA4.out.1.below hb5) (Utf8Tabs_below hT g5)).mono ?_
    rintro e w6 ⟨rfl, hb6⟩
    go_wp2_with fail
    go_ret
    exact ⟨by simp, below2 g5 hb6 g5.size⟩
end Go.Proofs.YtejmkboballonaaDoor
