/-
  Layer 7 (index): the law IndexSelects returns true.
-/
import Derived.Test.YtdbifbgjbfnfmaaDoorM18
namespace Go.Proofs.YtdbifbgjbfnfmaaDoor
open Go.RowKit Go.Deep
attribute [local go_sem] str_size str_append str_toList str_get str_extract
set_option linter.unusedVariables false
set_option linter.unusedSimpArgs false
set_option maxRecDepth 100000 in
set_option maxHeartbeats 1000000 in
theorem law_IndexSelects (a0 : Option Addr) (len0 cap0 : Nat) (z0 : List (List Lab)) (a1 : Option Addr) (len1 cap1 : Nat) (z1 : List Mat) (w : World) (hl0 : len0 ≤ maxLen) (w0 : LLAt w a0 len0 cap0 z0) (hl1 : len1 ≤ maxLen) (w1 : MsAt w a1 len1 z1) (hT : Lib.Utf8Tabs 1 2 w) (hS : w.ShapedOpen Tryd.prog) :
    Calls Tryd.prog 4 #[.slice a0 len0 cap0, .slice a1 len1 cap1] w fun e w' => e = .returned (.bool true) ∧ Below w.heap.size w w' := by
  have hle0 := w0.1
  subst hle0
  unfold maxLen at hl0
  have hle1 := w1.1
  subst hle1
  unfold maxLen at hl1
  have HE := Lib.hid (fun W (h : Below w.heap.size w W) => (Env.mk hT (maxLen_cell7 hS)).below h)
  have Z0 := Lib.hid w0
  have Z1 := Lib.hid w1
  clear hT hS w0 w1
  go_enter Tryd.func4, Tryd.ntmps4
  have hb := Below.refl w.heap.size w
  go_wp2_with fail
  refine (heavy7_c _ _ _ z0 _ (by omega) (Z0.out.below hb)).mono ?_
  rintro e v1 ⟨⟨b, rfl, hs⟩, hk⟩
  have hb := below2 hb hk hb.size
  clear hk
  cases b
  case true =>
    go_wp2_with fail
    go_ret
    exact ⟨rfl, hb⟩
  have hs := hs rfl
  have M0 := Lib.hid hs
  clear hs
  go_wp2_with fail
  refine (large7_c _ _ _ z1 _ (by omega) (Z1.out.below hb)).mono ?_
  rintro e v2 ⟨⟨b, rfl, hs⟩, hk⟩
  have hb := below2 hb hk hb.size
  clear hk
  cases b
  case true =>
    go_wp2_with fail
    go_ret
    exact ⟨rfl, hb⟩
  have hs := hs rfl
  have M1 := Lib.hid hs.to
  clear hs
  go_wp2_with fail
  refine (made_c _ _ _ z0 _ (Z0.out.below hb) M0.out (HE.out _ hb)).mono ?_
  rintro e v3 ⟨⟨q, p, rfl, hT2⟩, hk⟩
  have HT := Lib.hid (hT2.mono hb.size)
  clear hT2
  have hb := below2 hb hk hb.size
  clear hk
  obtain ⟨X, hX⟩ : ∃ X, addAll [] z0 = X := ⟨_, rfl⟩
  rw [hX] at HT
  have HX := Lib.hid hX
  clear hX
  go_wp2_with fail
  refine (xselect HT.out (Z1.out.below hb) M1.out (HE.out _ hb)).mono ?_
  rintro e v4 ⟨⟨A1, c1, rfl, hP⟩, hk⟩
  have HT := Lib.hid (HT.out.below hk)
  have RP := Lib.hid hP
  have hb := below2 hb hk hb.size
  clear hk hP
  go_wp2_with fail
  refine (rselect HT.out (Z1.out.below hb) M1.out).mono ?_
  rintro e v5 ⟨⟨A2, c2, rfl, hQ⟩, hk⟩
  have HT := Lib.hid (HT.out.below hk)
  have RP := Lib.hid (RP.out.below hk)
  have RQ := Lib.hid hQ
  have hb := below2 hb hk hb.size
  clear hk hQ
  have hmk := make_one
  go_wp2_with fail
  refine (xodd HT.out (fun W hW => HE.out W (below2 hb hW hb.size))).mono ?_
  rintro e v6 ⟨⟨A0, c0, rfl, _⟩, hk⟩
  clear hmk
  have HT := Lib.hid (HT.out.below hk)
  have RP := Lib.hid (RP.out.below hk)
  have RQ := Lib.hid (RQ.out.below hk)
  have hb := below2 hb hk hb.size
  clear hk
  have lN := selX_len HT.out.good.1 z1
  obtain ⟨N, hN⟩ : ∃ N, selX X z1 = N := ⟨_, rfl⟩
  rw [hN] at lN RP RQ ⊢
  clear hN
  go_wp2_with fail
  refine (sameI (b := true) (decide_eq_true rfl) (by omega) (by omega) RP.out RQ.out).mono ?_
  rintro e v7 ⟨rfl, hk⟩
  have HT := Lib.hid (HT.out.below hk)
  have RP := Lib.hid (RP.out.below hk)
  have RQ := Lib.hid (RQ.out.below hk)
  have hb := below2 hb hk hb.size
  clear hk
  go_wp2_with fail
  go_ret
  exact ⟨rfl, hb⟩
end Go.Proofs.YtdbifbgjbfnfmaaDoor
