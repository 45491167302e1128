/-
  Layer 7 (index): the law IndexBack returns true.
-/
import Derived.Test.YtdbifbgjbfnfmaaDoorM18
namespace Go.Proofs.YtdbifbgjbfnfmaaDoor
open Go.RowKit Go.Deep
attribute [local go_sem] str_size str_append str_toList str_get str_extract
set_option linter.unusedVariables false
set_option linter.unusedSimpArgs false
/-- Two indexes of the program's. -/
def TwoX (B q y : Nat) (X Y : Ix) (w : World) : Prop := ∃ F G, IsX F q X w ∧ IsX G y Y w ∧ (∀ k ∈ F, k ∉ G) ∧ (∀ k ∈ F, B ≤ k) ∧ ∀ k ∈ G, B ≤ k
theorem TwoX.symm {B q y : Nat} {X Y : Ix} {w : World} (h : TwoX B q y X Y w) : TwoX B y q Y X w := by
  obtain ⟨F, G, h1, h2, h3, h4, h5⟩ := h
  exact ⟨G, F, h2, h1, fun k hk hm => h3 k hm hk, h5, h4⟩
theorem TwoX.below {B q p : Nat} {X Y : Ix} {w w' : World} (h : TwoX B q p X Y w) (hb : Below w.heap.size w w') : TwoX B q p X Y w' := by
  obtain ⟨F, G, h1, h2, h3, h4, h5⟩ := h
  exact ⟨F, G, h1.keeps (G := []) (Keeps.below hb) (by simp), h2.keeps (G := []) (Keeps.below hb) (by simp), h3, h4, h5⟩
theorem add_x {B q y : Nat} {X Y : Ix} {A : Option Addr} {cap : Nat} {l : List Lab} {w : World} (h : TwoX B q y X Y w) (hB : B ≤ w.heap.size) (hA : LAt w A l.length l) (hs : SmallL l) (hE : Env w) :
    Calls Tryd.prog 17 #[.pointer (some ⟨q, 0, none⟩), .slice A l.length cap] w fun e w' => e = .returned (.tuple #[.int .i64 (addI X l), .int .i64 (addE X l)]) ∧ TwoX B q y (addX X l) Y w' ∧ Below B w w' := by
  obtain ⟨F, G, h1, h2, h3, h4, h5⟩ := h
  refine (ixAdd_c F q X A l.length cap l w h1 hA (by have := hs.1; omega) hs.2 hE).mono ?_
  rintro e w1 ⟨F', rfl, hX, hK, hF⟩
  refine ⟨rfl, ⟨F', G, hX, h2.keeps hK (fun k hk hm => h3 k hm hk), fun k hk hm => ?_, fun k hk => ?_, h5⟩, hK.to hB h4⟩
  · rcases hF k hk with h | h
    · exact h3 k h hm
    · have := h2.lt k hm; omega
  · rcases hF k hk with h | h
    · exact h4 k h
    · omega
theorem encode_x {B q y : Nat} {X Y : Ix} {w : World} (h : TwoX B q y X Y w) (hE : Env w) : Calls Tryd.prog 25 #[.pointer (some ⟨q, 0, none⟩)] w fun e w' => e = .returned (.string (str (encX X))) ∧ Below w.heap.size w w' := by
  obtain ⟨F, G, h1, h2, _⟩ := h; exact ixEncode_c F q X w h1 hE
set_option maxRecDepth 100000 in
set_option maxHeartbeats 1000000 in
theorem law_IndexBack (a0 : Option Addr) (len0 cap0 : Nat) (z0 : List (List Lab)) (a1 : Option Addr) (len1 cap1 : Nat) (z1 : List (List Lab)) (w : World) (hl0 : len0 ≤ maxLen) (w0 : LLAt w a0 len0 cap0 z0) (hl1 : len1 ≤ maxLen) (w1 : LLAt w a1 len1 cap1 z1) (hT : Lib.Utf8Tabs 1 2 w) (hS : w.ShapedOpen Tryd.prog) :
    Calls Tryd.prog 6 #[.slice a0 len0 cap0, .slice a1 len1 cap1] w fun e w' => e = .returned (.bool true) ∧ Below w.heap.size w w' := by
  have hle0 := w0.1
  subst hle0
  unfold maxLen at hl0
  have hle1 := w1.1
  subst hle1
  unfold maxLen at hl1
  have HE := Lib.hid (fun W (h : Below w.heap.size w W) => (Env.mk hT (maxLen_cell7 hS)).below h)
  have Z0 := Lib.hid w0
  have Z1 := Lib.hid w1
  clear hT hS w0 w1
  go_enter Tryd.func6, Tryd.ntmps6
  have hb := Below.refl w.heap.size w
  go_wp2_with fail
  refine (heavy7_c _ _ _ z0 _ (by omega) (Z0.out.below hb)).mono ?_
  rintro e v1 ⟨⟨b, rfl, hs⟩, hk⟩
  have hb := below2 hb hk hb.size
  clear hk
  cases b
  case true =>
    go_wp2_with fail
    go_ret
    exact ⟨rfl, hb⟩
  have hs := hs rfl
  have M0 := Lib.hid hs
  clear hs
  go_wp2_with fail
  refine (heavy7_c _ _ _ z1 _ (by omega) (Z1.out.below hb)).mono ?_
  rintro e v2 ⟨⟨b, rfl, hs⟩, hk⟩
  have hb := below2 hb hk hb.size
  clear hk
  cases b
  case true =>
    go_wp2_with fail
    go_ret
    exact ⟨rfl, hb⟩
  have hs := hs rfl
  have M1 := Lib.hid hs
  have hl4 := hs.1
  clear hs
  go_wp2_with fail
  refine (made_c _ _ _ z0 _ (Z0.out.below hb) M0.out (HE.out _ hb)).mono ?_
  rintro e v3 ⟨⟨q, p, rfl, hT2⟩, hk⟩
  have HT := Lib.hid (hT2.mono hb.size)
  clear hT2
  have hb := below2 hb hk hb.size
  clear hk
  obtain ⟨X, hX⟩ : ∃ X, addAll [] z0 = X := ⟨_, rfl⟩
  rw [hX] at HT
  have HX := Lib.hid hX
  clear hX
  go_wp2_with fail
  refine (xencode HT.out (HE.out _ hb)).mono ?_
  rintro e v4 ⟨rfl, hk⟩
  have HT := Lib.hid (HT.out.below hk)
  have hb := below2 hb hk hb.size
  clear hk
  have hg := HT.out.good.1
  have CD := Lib.hid (fun W h => ixDecode_c (encX X) W (.inr ⟨X, hg, rfl⟩) (HE.out W h))
  rw [decX_some hg rfl] at CD
  clear hg
  obtain ⟨s, hs⟩ : ∃ s, encX X = s := ⟨_, rfl⟩
  rw [hs] at CD ⊢
  have HS := Lib.hid hs
  clear hs
  go_wp2_with fail
  refine (CD.out _ hb).mono ?_
  rintro e v5 ⟨⟨F2, y, rfl, hY, hF2⟩, hk⟩
  have HY : Hid (TwoX w.heap.size q y X X v5) := by
    obtain ⟨F, G, i1, i2, i3, i4, i5⟩ := HT.out
    refine ⟨F, F2, i1.keeps (G := []) (Keeps.below hk) (by simp), hY, fun k hkF hm => ?_, i4, fun k hm => Nat.le_trans hb.size (hF2 k hm)⟩
    have := i1.lt k hkF
    have := hF2 k hm
    omega
  clear hY hF2
  have HT := Lib.hid (HT.out.below hk)
  have hb := below2 hb hk hb.size
  clear hk
  go_wp2_with fail
  refine (rencode HT.out).mono ?_
  rintro e v6 ⟨rfl, hk⟩
  have HT := Lib.hid (HT.out.below hk)
  have HY := Lib.hid (HY.out.below hk)
  have hb := below2 hb hk hb.size
  clear hk
  rw [HS.out]
  have t1 : (s == s) = true := by simp
  go_wp2_with fail
  refine (encode_x HY.out.symm (HE.out _ hb)).mono ?_
  rintro e v7 ⟨rfl, hk⟩
  have HT := Lib.hid (HT.out.below hk)
  have HY := Lib.hid (HY.out.below hk)
  have hb := below2 hb hk hb.size
  clear hk
  rw [HS.out]
  have HX0 : Hid (addAll X [] = X) := rfl
  go_wp2_with fail
  go_loopw [11] (fun c wr => ∃ (i : Nat) (Y : Ix), i ≤ z1.length ∧ c = .int .i64 i ∧ Hid (TwoX w.heap.size q y Y Y wr) ∧ Below w.heap.size w wr) (fun c _ => z1.length - (intOf c).toNat)
  case atStart => exact ⟨0, X, Nat.zero_le _, rfl, HY.out, hb⟩
  case round =>
    clear HT HY hb HX0
    obtain ⟨i, Y, hi, rfl, HT, hb⟩ := hrel
    have hbs := hb.size
    by_cases hlt : i < z1.length
    · obtain ⟨ad, Ai, ci, rfl, h2, h3, h4⟩ := Z1.out.nth hlt
      have hg3 := h3
      have h3 := (hb.cell (p := ad.add i) h2).trans hg3
      have hsm := M1.out.2 _ (List.getElem_mem hlt)
      obtain ⟨l, hl2⟩ : ∃ l, z1[i]'hlt = l := ⟨_, rfl⟩
      rw [hl2] at h3 hg3 h4 hsm
      have HG := Lib.hid (fun (W : World) (hW : Below w.heap.size w W) => (hW.cell (p := ad.add i) h2).trans hg3)
      have HA := Lib.hid (And.intro h4 hsm)
      obtain ⟨a, ha⟩ : ∃ a, addI Y l = a := ⟨_, rfl⟩
      obtain ⟨b, hbb⟩ : ∃ b, addE Y l = b := ⟨_, rfl⟩
      have HAB := Lib.hid (And.intro ha hbb)
      clear hg3 h4 hsm hl2 ha hbb
      go_wp2_with fail
      refine (add_x HT.out hbs (HA.out.1.below hb) HA.out.2 (HE.out _ hb)).mono ?_
      rintro e v3 ⟨rfl, hT3, hb3⟩
      rw [HAB.out.1, HAB.out.2]
      have HT3 := Lib.hid hT3.symm
      have hb3 := hb.trans hb3
      have h3 := HG.out _ hb3
      clear hT3
      go_wp2_with fail
      refine (add_x HT3.out hb3.size (HA.out.1.below hb3) HA.out.2 (HE.out _ hb3)).mono ?_
      rintro e v4 ⟨rfl, hT4, hb4⟩
      rw [HAB.out.1, HAB.out.2]
      have HT4 := Lib.hid hT4
      have hb4 := hb3.trans hb4
      have t1 : (a == a) = true := by simp
      have t2 : (b == b) = true := by simp
      clear hT4 h3
      go_wp2_with fail
      go_roundw
      case rel => exact ⟨i + 1, addX Y l, by omega, by go_num, HT4.out.symm, hb4⟩
      case measure => simp [intOf]; omega
    · obtain rfl : i = z1.length := by omega
      clear HS
      go_wp2_with fail
      refine (encode_x HT.out (HE.out _ hb)).mono ?_
      rintro e v8 ⟨rfl, hk⟩
      have HT := Lib.hid (HT.out.below hk)
      have hb := below2 hb hk hb.size
      clear hk
      obtain ⟨t, ht⟩ : ∃ t, encX Y = t := ⟨_, rfl⟩
      rw [ht]
      have HTt := Lib.hid ht
      clear ht
      go_wp2_with fail
      refine (encode_x HT.out.symm (HE.out _ hb)).mono ?_
      rintro e v9 ⟨rfl, hk⟩
      have HT := Lib.hid (HT.out.below hk)
      have hb := below2 hb hk hb.size
      clear hk
      rw [HTt.out]
      have t2 : (t == t) = true := by simp
      go_wp2_with fail
      go_ret
      exact ⟨rfl, hb⟩
end Go.Proofs.YtdbifbgjbfnfmaaDoor
