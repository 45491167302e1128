/-
  Layer 5 (match): the law MatchPrints returns true.
-/
import Derived.Test.YtopnnhjfcfhihaaDoorMatchG
import Derived.Test.YtopnnhjfcfhihaaDoorMatchRefP
import Derived.Test.YtopnnhjfcfhihaaDoorMatchS
import Derived.Test.YtopnnhjfcfhihaaDoorMatchH
namespace Go.Proofs.YtopnnhjfcfhihaaDoor
open Go.RowKit Go.Deep
attribute [local go_sem] str_size str_append str_toList str_get str_extract
set_option linter.unusedVariables false
set_option linter.unusedSimpArgs false
theorem maxLen_cellM {w : World} (hS : w.ShapedOpen Tryd.prog) : ∃ m : Int, w.cell? ⟨0, 0, none⟩ = some (.int .i64 m) ∧ 0 < w.heap.size := by
  obtain ⟨m, hm⟩ := Tryd.laysM145.s1_3 w hS
  exact ⟨m, hm, World.block_lt_of_cell? w _ hm⟩
set_option maxRecDepth 100000 in
set_option maxHeartbeats 2000000 in
theorem law_MatchPrints (a0 : Option Addr) (len0 cap0 : Nat) (z0 : List Mat) (w : World) (hl0 : len0 ≤ maxLen) (w0 : MsAt w a0 len0 z0) (hT : Lib.Utf8Tabs 1 2 w) (hS : w.ShapedOpen Tryd.prog) :
    Calls Tryd.prog 4 #[.slice a0 len0 cap0] w fun e w' => e = .returned (.bool true) ∧ Below w.heap.size w w' := by
  obtain ⟨m, hm, hm2⟩ := maxLen_cellM hS
  clear hS
  unfold maxLen at hl0
  have hle0 := w0.1
  subst hle0
  have cH := fun W h => heavyM_c a0 z0.length cap0 z0 W hl0 h
  cases hH : heavyM z0 with
  | true =>
    rw [hH] at cH
    go_enter Tryd.func4, Tryd.ntmps4
    go_wp2_with (go_at_call 6; refine (cH _ w0).mono ?_; rintro e w2 ⟨rfl, hb2⟩; dsimp only)
    go_ret
    exact ⟨rfl, hb2⟩
  | false =>
  rw [hH] at cH
  obtain ⟨hn0, hsm⟩ := heavyM_small hH
  have hsm' : ∀ m ∈ z0, smallM m := hsm
  have cp := fun W h h' => mprint_c a0 z0.length cap0 z0 W hl0 h hsm' h'
  have cr := fun W h => mrefPrint_c a0 z0.length cap0 z0 W hl0 h hsm'
  clear hH hsm hsm'
  cases hO : okMs z0 with
  | false =>
    rw [hO, show eM false = 50 from rfl] at cp cr
    have cp2 : ∀ W, MsAt W a0 z0.length z0 → Lib.Utf8Tabs 1 2 W → Calls Tryd.prog 14 #[.slice a0 z0.length cap0] W fun e w' => e = .returned (.tuple #[.string (str []), .int .i64 50]) ∧ Below W.heap.size W w' := fun W h h' => cp W h h'
    have cr2 : ∀ W, MsAt W a0 z0.length z0 → Calls Tryd.prog 15 #[.slice a0 z0.length cap0] W fun e w' => e = .returned (.tuple #[.string (str []), .int .i64 50]) ∧ Below W.heap.size W w' := fun W h => cr W h
    clear cp cr hO
    go_enter Tryd.func4, Tryd.ntmps4
    go_wp2_with (go_at_call 6; refine (cH _ w0).mono ?_; rintro e w2 ⟨rfl, hb2⟩; dsimp only)
    refine (cp2 _ (w0.below hb2) (Utf8Tabs_below hT hb2)).mono ?_
    rintro e w3 ⟨rfl, hb3⟩
    have hb3' := below2 hb2 hb3 hb2.size
    go_wp2_with fail
    refine (cr2 _ (w0.below hb3')).mono ?_
    rintro e w4 ⟨rfl, hb4⟩
    have hb4' := below2 hb3' hb4 hb3'.size
    go_wp2_with fail
    go_ret
    exact ⟨rfl, hb4'⟩
  | true =>
    rw [hO, show eM true = 0 from rfl, if_pos rfl] at cp cr
    have hpl := printM_len hO
    have hp2 : 2 ≤ (printM z0).length := by unfold printM; simp
    have hpar := fun W h h' h'' => mparse_c (printM z0) W (by omega) m h h' h''
    obtain ⟨S, hSS⟩ : ∃ S, printM z0 = S := ⟨_, rfl⟩
    rw [hSS] at cp cr hpl hp2 hpar
    have hOS : Hid (okMs z0 = true ∧ printM z0 = S) := ⟨hO, hSS⟩
    have tS : (S != S) = false := by simp
    clear hO hSS
    go_enter Tryd.func4, Tryd.ntmps4
    go_wp2_with (go_at_call 6; refine (cH _ w0).mono ?_; rintro e w2 ⟨rfl, hb2⟩; dsimp only)
    refine (cp _ (w0.below hb2) (Utf8Tabs_below hT hb2)).mono ?_
    rintro e w3 ⟨rfl, hb3⟩
    have hb3' := below2 hb2 hb3 hb2.size
    go_wp2_with fail
    refine (cr _ (w0.below hb3')).mono ?_
    rintro e w4 ⟨rfl, hb4⟩
    have hb4' := below2 hb3' hb4 hb3'.size
    go_wp2_with fail
    refine (hpar _ ((hb4'.cell (p := ⟨0, 0, none⟩) hm2).trans hm) (Nat.lt_of_lt_of_le hm2 hb4'.size) (Utf8Tabs_below hT hb4')).mono ?_
    rintro e w5 ⟨hP, hb5⟩
    have hb5' := below2 hb4' hb5 hb4'.size
    rcases hP with ⟨rfl, hno⟩ | ⟨A, cap, l, rfl, hl, hlo, hlp, hun⟩
    · exact absurd hOS.out.2 (hno _ hOS.out.1)
    · have hll := okMs_len hlo
      have e1 := hun _ hOS.out.1 hOS.out.2
      have C6 := mrefSame_c A a0 l.length z0.length cap cap0 l z0 w5 (by omega) (by omega) hl (w0.below hb5')
      rw [decide_eq_true e1.symm] at C6
      have C6 := Lib.hid C6
      clear hl hun hlo hlp e1
      have tp2 : (2 : Int) ≤ (S.length : Int) := by omega
      go_wp2_with (go_at_call 17; refine C6.out.mono ?_; rintro e w6 ⟨rfl, hb6⟩; dsimp only)
      go_ret
      exact ⟨rfl, below2 hb5' hb6 hb5'.size⟩
end Go.Proofs.YtopnnhjfcfhihaaDoor
