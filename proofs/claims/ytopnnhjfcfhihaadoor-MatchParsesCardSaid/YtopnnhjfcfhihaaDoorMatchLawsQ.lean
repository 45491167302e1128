/-
  Layer 5 (match): the law MatchParses returns true.
-/
import Derived.Test.YtopnnhjfcfhihaaDoorMatchRefG
import Derived.Test.YtopnnhjfcfhihaaDoorMatchS
import Derived.Test.YtopnnhjfcfhihaaDoorMatchLawsP
namespace Go.Proofs.YtopnnhjfcfhihaaDoor
open Go.RowKit Go.Deep
attribute [local go_sem] str_size str_append str_toList str_get str_extract
set_option linter.unusedVariables false
set_option linter.unusedSimpArgs false
theorem okMs_small {l : List Mat} (h : okMs l = true) : ∀ m ∈ l, smallM m := fun m hm => by
  obtain ⟨h1, h2, h3, h4⟩ := chkL_small (okMs_mem h m hm)
  exact ⟨by omega, by omega, by omega, fun x hx => by have := h4 x hx; omega⟩
set_option maxRecDepth 100000 in
set_option maxHeartbeats 4000000 in
theorem law_MatchParses (a0 : ByteArray) (w : World) (w0 : a0.size ≤ maxLen) (hT : Lib.Utf8Tabs 1 2 w) (hS : w.ShapedOpen Tryd.prog) :
    Calls Tryd.prog 5 #[.string a0] w fun e w' => e = .returned (.bool true) ∧ Below w.heap.size w w' := by
  obtain ⟨m, hm, hm2⟩ := maxLen_cellM hS
  clear hS
  obtain ⟨s, rfl⟩ := str_of a0
  rw [str_size] at w0
  unfold maxLen at w0
  by_cases hs : 2048 < (s.length : Int)
  · go_enter Tryd.func5, Tryd.ntmps5
    go_wp2
    go_ret
    exact ⟨rfl, Below.refl _ _⟩
  have hs' : s.length ≤ 2048 := by omega
  have HW : Hid (∀ W, Below w.heap.size w W → W.cell? ⟨0, 0, none⟩ = some (.int .i64 m) ∧ 0 < W.heap.size ∧ Lib.Utf8Tabs 1 2 W) := fun W h =>
    ⟨(h.cell (p := ⟨0, 0, none⟩) hm2).trans hm, Nat.lt_of_lt_of_le hm2 h.size, Utf8Tabs_below hT h⟩
  have c1 := mparse_c s w (by omega) m hm hm2 hT
  have c2 := fun W => mrefParse_c s W (by omega)
  have c3 := fun W h h' h'' => mparse_c [] W (by simp) m h h' h''
  have td : decide (2048 < (s.length : Int)) = false := by simpa using hs
  clear hs hm hT
  go_enter Tryd.func5, Tryd.ntmps5
  go_wp2_with fail
  refine c1.mono ?_
  rintro e w1 ⟨hP, hb1⟩
  clear c1
  have hno0 : ∀ L, okMs L = true → printM L ≠ [] := fun L _ h => by unfold printM at h; simp at h
  rcases hP with ⟨rfl, hno⟩ | ⟨A, cap, l, rfl, hl, hlo, hlp, hun⟩
  · go_wp2_with fail
    refine (c2 _).mono ?_
    rintro e w2 ⟨hR, hb2⟩
    have hb2' := below2 hb1 hb2 hb1.size
    rcases hR with ⟨rfl, hno2⟩ | ⟨A', cap', l', rfl, hl', hlo', hlp', hun'⟩
    · have HN := Lib.hid hno
      clear hno hno2
      go_wp2_with fail
      refine (c3 _ (HW.out _ hb2').1 (HW.out _ hb2').2.1 (HW.out _ hb2').2.2).mono ?_
      rintro e w3 ⟨hE, hb3⟩
      have hb3' := below2 hb2' hb3 hb2'.size
      rcases hE with ⟨rfl, hno3⟩ | ⟨A'', cap'', l'', rfl, hl'', hlo'', hlp'', hun''⟩
      · clear hno3
        have C4 := mrefSame_c none none 0 0 0 0 [] [] w3 (by simp) (by simp) (MsAt.nil _ _) (MsAt.nil _ _)
        rw [decide_eq_true rfl] at C4
        have C4 := Lib.hid C4
        have C5 := mprint_c none 0 0 [] 
        go_wp2_with (go_at_call 17; refine C4.out.mono ?_; rintro e w4 ⟨rfl, hb4⟩; have hb4' := below2 hb3' hb4 hb3'.size; dsimp only)
        refine (C5 _ (by omega) (MsAt.nil _ _) (by simp) (HW.out _ hb4').2.2).mono ?_
        rintro e w5 ⟨rfl, hb5⟩
        have hb5' := below2 hb4' hb5 hb4'.size
        go_wp2_with fail
        go_ret
        exact ⟨rfl, hb5'⟩
      · exact absurd hlp'' (hno0 _ hlo'')
    · exact absurd hlp' (hno _ hlo')
  · have hll := okMs_len hlo
    have HL := Lib.hid (And.intro hl (And.intro hlo hlp))
    clear hl hlo hlp
    go_wp2_with fail
    refine (c2 _).mono ?_
    rintro e w2 ⟨hR, hb2⟩
    have hb2' := below2 hb1 hb2 hb1.size
    rcases hR with ⟨rfl, hno2⟩ | ⟨A', cap', l', rfl, hl', hlo', hlp', hun'⟩
    · exact absurd HL.out.2.2 (hno2 _ HL.out.2.1)
    · have hell := hun _ hlo' hlp'
      subst hell
      have HL' := Lib.hid hl'
      clear hl' hlo' hlp' hun' hun
      go_wp2_with fail
      refine (c3 _ (HW.out _ hb2').1 (HW.out _ hb2').2.1 (HW.out _ hb2').2.2).mono ?_
      rintro e w3 ⟨hE, hb3⟩
      have hb3' := below2 hb2' hb3 hb2'.size
      rcases hE with ⟨rfl, hno3⟩ | ⟨A'', cap'', l'', rfl, hl'', hlo'', hlp'', hun''⟩
      · clear hno3
        have C4 := mrefSame_c A A' l'.length l'.length cap cap' l' l' w3 (by omega) (by omega) ((HL.out.1.below hb2).below hb3) (HL'.out.below hb3)
        rw [decide_eq_true rfl] at C4
        have C4 := Lib.hid C4
        have C5 := fun W h h' => mprint_c A l'.length cap l' W (by omega) h (okMs_small HL.out.2.1) h'
        rw [HL.out.2.1, if_pos rfl, HL.out.2.2, show eM true = 0 from rfl] at C5
        have ts : (s == s) = true := by simp
        go_wp2_with (go_at_call 17; refine C4.out.mono ?_; rintro e w4 ⟨rfl, hb4⟩; have hb4' := below2 hb3' hb4 hb3'.size; dsimp only)
        refine (C5 _ (((HL.out.1.below hb2).below hb3).below hb4) (HW.out _ hb4').2.2).mono ?_
        rintro e w5 ⟨rfl, hb5⟩
        have hb5' := below2 hb4' hb5 hb4'.size
        go_wp2_with fail
        go_ret
        exact ⟨rfl, hb5'⟩
      · exact absurd hlp'' (hno0 _ hlo'')
end Go.Proofs.YtopnnhjfcfhihaaDoor
