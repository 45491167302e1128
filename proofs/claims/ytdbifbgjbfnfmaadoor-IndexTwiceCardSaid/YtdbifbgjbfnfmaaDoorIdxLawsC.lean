/-
  Layer 7 (index): the law IndexTwice returns true.
-/
import Derived.Test.YtdbifbgjbfnfmaaDoorM18
namespace Go.Proofs.YtdbifbgjbfnfmaaDoor
open Go.RowKit Go.Deep
attribute [local go_sem] str_size str_append str_toList str_get str_extract
set_option linter.unusedVariables false
set_option linter.unusedSimpArgs false
theorem u8_of {a : Int} (h : (Lit.int .u8 a).wf = true) : 0 ≤ a ∧ a ≤ 255 := by
  have e : IntKind.u8.min = 0 := by decide
  have e2 : IntKind.u8.max = 255 := by decide
  unfold Lit.wf at h
  simp at h
  omega
set_option maxRecDepth 100000 in
set_option maxHeartbeats 1000000 in
theorem law_IndexTwice (a0 : Option Addr) (len0 cap0 : Nat) (z0 : List (List Lab)) (a1 : Int) (w : World) (hl0 : len0 ≤ maxLen) (w0 : LLAt w a0 len0 cap0 z0) (w1 : (Lit.int .u8 a1).wf = true) (hT : Lib.Utf8Tabs 1 2 w) (hS : w.ShapedOpen Tryd.prog) :
    Calls Tryd.prog 9 #[.slice a0 len0 cap0, .int .u8 a1] w fun e w' => e = .returned (.bool true) ∧ Below w.heap.size w w' := by
  have hle0 := w0.1
  subst hle0
  unfold maxLen at hl0
  have HE := Lib.hid (fun W (h : Below w.heap.size w W) => (Env.mk hT (maxLen_cell7 hS)).below h)
  have Z0 := Lib.hid w0
  clear hT hS w0
  have hu := u8_of w1
  obtain ⟨u, rfl⟩ : ∃ u : Nat, a1 = u := ⟨a1.toNat, by omega⟩
  have hu2 : u ≤ 255 := by omega
  clear hu w1
  go_enter Tryd.func9, Tryd.ntmps9
  have hb := Below.refl w.heap.size w
  go_wp2_with fail
  refine (heavy7_c _ _ _ z0 _ (by omega) (Z0.out.below hb)).mono ?_
  rintro e v1 ⟨⟨b, rfl, hs⟩, hk⟩
  have hb := below2 hb hk hb.size
  clear hk
  cases b
  case true =>
    go_wp2_with fail
    go_ret
    exact ⟨rfl, hb⟩
  have hs := hs rfl
  have M0 := Lib.hid hs
  have hl4 := hs.1
  clear hs
  go_wp2_with fail
  refine (made_c _ _ _ z0 _ (Z0.out.below hb) M0.out (HE.out _ hb)).mono ?_
  rintro e v2 ⟨⟨q, p, rfl, hT2⟩, hk⟩
  have HT := Lib.hid (hT2.mono hb.size)
  clear hT2
  have hb := below2 hb hk hb.size
  clear hk
  obtain ⟨X, hX⟩ : ∃ X, addAll [] z0 = X := ⟨_, rfl⟩
  rw [hX] at HT
  have HX := Lib.hid hX
  clear hX
  go_wp2_with fail
  refine (xencode HT.out (HE.out _ hb)).mono ?_
  rintro e v3 ⟨rfl, hk⟩
  have HT := Lib.hid (HT.out.below hk)
  have hb := below2 hb hk hb.size
  clear hk
  obtain ⟨s, hs⟩ : ∃ s, encX X = s := ⟨_, rfl⟩
  rw [hs]
  have HS := Lib.hid hs
  clear hs
  go_wp2_with fail
  go_loopw [9] (fun c wr => ∃ i : Nat, i ≤ z0.length ∧ c = .int .i64 i ∧ Hid (Two7 w.heap.size q p X X wr) ∧ Below w.heap.size w wr) (fun c _ => z0.length - (intOf c).toNat)
  case atStart => exact ⟨0, Nat.zero_le _, rfl, HT.out, hb⟩
  case round =>
    clear HT hb
    obtain ⟨i, hi, rfl, HT, hb⟩ := hrel
    have hbs := hb.size
    by_cases hlt : i < z0.length
    · obtain ⟨k, hk⟩ : ∃ k, (i + u) % z0.length = k := ⟨_, rfl⟩
      have hkl : k < z0.length := by rw [← hk]; exact Nat.mod_lt _ (by omega)
      have e0 : IntKind.i64.wrap ((i : Int) + (u : Int)) = (i : Int) + (u : Int) := IntWalk.i64_in _ (by omega)
      have e1 : ((i : Int) + (u : Int)).tmod (z0.length : Int) = (k : Int) := by rw [← Int.natCast_add, ← hk]; rfl
      have e2 : ((i : Int) + (u : Int)) % (z0.length : Int) = (k : Int) := by rw [← Int.natCast_add, ← hk]; rfl
      have n0 : ((z0.length : Int) == 0) = false := by rw [beq_eq_false_iff_ne]; omega
      obtain ⟨ad, Ai, ci, rfl, h2, h3, h4⟩ := Z0.out.nth hkl
      have hg3 := h3
      have h3 := (hb.cell (p := ad.add k) h2).trans hg3
      have hsm := M0.out.2 _ (List.getElem_mem hkl)
      have hst := add_again (X := []) (List.getElem_mem hkl)
      rw [HX.out] at hst
      obtain ⟨l, hl2⟩ : ∃ l, z0[k]'hkl = l := ⟨_, rfl⟩
      rw [hl2] at h3 hg3 h4 hsm hst
      have HG := Lib.hid (fun (W : World) (hW : Below w.heap.size w W) => (hW.cell (p := ad.add k) h2).trans hg3)
      have HA := Lib.hid (And.intro h4 hsm)
      have HST := Lib.hid hst
      obtain ⟨a, ha⟩ : ∃ a, addI X l = a := ⟨_, rfl⟩
      obtain ⟨b, hbb⟩ : ∃ b, addE X l = b := ⟨_, rfl⟩
      have HAB := Lib.hid (And.intro ha hbb)
      clear hg3 h4 hsm hst hl2 ha hbb hk
      go_wp2_with fail
      refine (add_two HT.out hbs (HA.out.1.below hb) HA.out.2 (HE.out _ hb)).mono ?_
      rintro e v3 ⟨rfl, hT3, hb3⟩
      rw [HAB.out.1, HAB.out.2]
      have HT3 := Lib.hid hT3
      have hb3 := hb.trans hb3
      have h3 := HG.out _ hb3
      clear hT3
      go_wp2_with fail
      refine (radd_two HT3.out hb3.size (HA.out.1.below hb3) HA.out.2).mono ?_
      rintro e v4 ⟨rfl, hT4, hb4⟩
      rw [HAB.out.1, HAB.out.2]
      rw [HST.out] at hT4
      have HT4 := Lib.hid hT4
      have hb4 := hb3.trans hb4
      have t1 : (a == a) = true := by simp
      have t2 : (b == b) = true := by simp
      clear hT4 h3
      go_wp2_with fail
      go_roundw
      case rel => exact ⟨i + 1, by omega, by go_num, HT4.out, hb4⟩
      case measure => simp [intOf]; omega
    · obtain rfl : i = z0.length := by omega
      have hmk := make_one
      go_wp2_with fail
      refine (xodd HT.out (fun W hW => HE.out W (below2 hb hW hb.size))).mono ?_
      rintro e v4 ⟨⟨A0, c0, rfl, _⟩, hk⟩
      clear hmk
      have HT := Lib.hid (HT.out.below hk)
      have hb := below2 hb hk hb.size
      clear hk
      go_wp2_with fail
      refine (xencode HT.out (HE.out _ hb)).mono ?_
      rintro e v5 ⟨rfl, hk⟩
      have HT := Lib.hid (HT.out.below hk)
      have hb := below2 hb hk hb.size
      clear hk
      rw [HS.out]
      have t1 : (s == s) = true := by simp
      go_wp2_with fail
      refine (rencode HT.out).mono ?_
      rintro e v6 ⟨rfl, hk⟩
      have HT := Lib.hid (HT.out.below hk)
      have hb := below2 hb hk hb.size
      clear hk
      rw [HS.out]
      go_wp2_with fail
      go_ret
      exact ⟨rfl, hb⟩
end Go.Proofs.YtdbifbgjbfnfmaaDoor
