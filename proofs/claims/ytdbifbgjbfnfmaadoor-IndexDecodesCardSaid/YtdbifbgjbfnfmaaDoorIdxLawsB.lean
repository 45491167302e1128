/-
  Layer 7 (index): the law IndexDecodes returns true.
-/
import Derived.Test.YtdbifbgjbfnfmaaDoorM18
import Derived.Test.YtdbifbgjbfnfmaaDoorM19
namespace Go.Proofs.YtdbifbgjbfnfmaaDoor
open Go.RowKit Go.Deep
attribute [local go_sem] str_size str_append str_toList str_get str_extract
set_option linter.unusedVariables false
set_option linter.unusedSimpArgs false
theorem decX_empty : decX [] = none := decX_none fun X hX he => by
  have := congrArg List.length he
  have h2 := uv_pos X.length
  unfold encX at this
  rw [List.length_append, List.length_nil] at this
  omega
set_option maxRecDepth 100000 in
set_option maxHeartbeats 1000000 in
theorem law_IndexDecodes (a0 : ByteArray) (w : World) (w0 : a0.size ≤ maxLen) (hT : Lib.Utf8Tabs 1 2 w) (hS : w.ShapedOpen Tryd.prog) :
    Calls Tryd.prog 7 #[.string a0] w fun e w' => e = .returned (.bool true) ∧ Below w.heap.size w w' := by
  obtain ⟨s, rfl⟩ := str_of a0
  rw [str_size] at w0
  unfold maxLen at w0
  by_cases h0 : 2048 < (s.length : Int)
  · have t0 : decide (2048 < (s.length : Int)) = true := by simpa using h0
    clear hT hS
    go_enter Tryd.func7, Tryd.ntmps7
    go_wp2_with fail
    go_ret
    exact ⟨rfl, Below.refl _ _⟩
  have t0 : decide (2048 < (s.length : Int)) = false := by simpa using h0
  have hs : s.length ≤ 2048 := by omega
  have HE := Lib.hid (fun W (h : Below w.heap.size w W) => (Env.mk hT (maxLen_cell7 hS)).below h)
  clear hT hS h0
  have C1 := Lib.hid (ixDecode_c s w (.inl (by omega)) (HE.out _ (Below.refl _ _)))
  have C2 := Lib.hid (fun W => refDecode_c s W (by omega))
  have C3 := Lib.hid (fun W h => ixDecode_c [] W (.inl (by simp)) (HE.out W h))
  rw [decX_empty] at C3
  cases hD : decX s with
  | none =>
    rw [hD] at C1 C2
    go_enter Tryd.func7, Tryd.ntmps7
    go_wp2_with fail
    refine C1.out.mono ?_
    rintro e w1 ⟨he, hb1⟩
    have he : e = .returned (.tuple #[.pointer none, .int .i64 11]) := he
    subst he
    go_wp2_with fail
    refine (C2.out _).mono ?_
    rintro e w2 ⟨he, hb2⟩
    have he : e = .returned (.tuple #[.pointer none, .int .i64 11]) := he
    subst he
    have hb2 := below2 hb1 hb2 hb1.size
    go_wp2_with fail
    refine (C3.out _ hb2).mono ?_
    rintro e w3 ⟨he, hb3⟩
    have he : e = .returned (.tuple #[.pointer none, .int .i64 11]) := he
    subst he
    have hb3 := below2 hb2 hb3 hb2.size
    go_wp2_with fail
    go_ret
    exact ⟨rfl, hb3⟩
  | some X =>
    rw [hD] at C1 C2
    have hX := decX_of hD
    go_enter Tryd.func7, Tryd.ntmps7
    go_wp2_with fail
    refine C1.out.mono ?_
    rintro e w1 ⟨⟨F, q, rfl, hI, hF⟩, hb1⟩
    have HI := Lib.hid hI
    clear hI hF
    go_wp2_with fail
    refine (C2.out _).mono ?_
    rintro e w2 ⟨⟨G, p, rfl, hR, hG⟩, hb2⟩
    have HI := Lib.hid (HI.out.keeps (G := []) (Keeps.below hb2) (by simp))
    have HR := Lib.hid hR
    have hb2 := below2 hb1 hb2 hb1.size
    clear hR hG
    go_wp2_with fail
    refine (C3.out _ hb2).mono ?_
    rintro e w3 ⟨he, hb3⟩
    have he : e = .returned (.tuple #[.pointer none, .int .i64 11]) := he
    subst he
    have HI := Lib.hid (HI.out.keeps (G := []) (Keeps.below hb3) (by simp))
    have HR := Lib.hid (HR.out.below hb3)
    have hb3 := below2 hb2 hb3 hb2.size
    have HXe := Lib.hid hX
    clear hX hD C1 C2 C3
    go_wp2_with fail
    refine (ixEncode_c F q X _ HI.out (HE.out _ hb3)).mono ?_
    rintro e w4 ⟨rfl, hb4⟩
    rw [HXe.out.2]
    have HI := Lib.hid (HI.out.keeps (G := []) (Keeps.below hb4) (by simp))
    have HR := Lib.hid (HR.out.below hb4)
    have hb4 := below2 hb3 hb4 hb3.size
    have t1 : (s == s) = true := by simp
    go_wp2_with fail
    refine (ixLen_c F q X _ HI.out).mono ?_
    rintro e w5 ⟨rfl, hb5⟩
    have HR := Lib.hid (HR.out.below hb5)
    have hb5 := below2 hb4 hb5 hb4.size
    go_wp2_with fail
    refine (refLen_c G p X _ HR.out).mono ?_
    rintro e w6 ⟨rfl, rfl⟩
    go_wp2_with fail
    go_ret
    exact ⟨rfl, hb5⟩
end Go.Proofs.YtdbifbgjbfnfmaaDoor
