/-
  Layer 8 (frame): the law FrameChanged returns true.
-/
import Derived.Test.YtfhcjlmolneooaaDoorFrameLawsA
namespace Go.Proofs.YtfhcjlmolneooaaDoor
open Go.RowKit Go.Deep
attribute [local go_sem] str_size str_append str_toList str_get str_extract
set_option linter.unusedVariables false
set_option linter.unusedSimpArgs false
/-- A frame with one byte behind its length anew. -/
theorem changed_scans {s F X R : List UInt8} (hs : Short s) (hF : frameL s = F) {k : Nat} (h1 : (uv s.length).length ≤ k) (h2 : k < F.length) (y : UInt8) (hy : y ≠ F[k]) : Scans (F.take k ++ [y] ++ F.drop (k + 1)) [] (F.take k ++ [y] ++ F.drop (k + 1)) := by
  refine ⟨by simp, by simp [rowF], ?_⟩
  have hb : F = uv s.length ++ (s ++ sumB s) := by rw [← hF]; simp [frameL, tx]
  have hd : F.drop (uv s.length).length = s ++ sumB s := by rw [hb, List.drop_left]
  have e1 : s ++ sumB s = (F.drop (uv s.length).length).take (k - (uv s.length).length) ++ F[k] :: F.drop (k + 1) := by
    rw [← hd]
    have := List.take_append_drop (k - (uv s.length).length) (F.drop (uv s.length).length)
    rw [List.drop_drop, show (uv s.length).length + (k - (uv s.length).length) = k by omega, List.drop_eq_getElem_cons h2] at this
    exact this.symm
  have e2 : F.take k = uv s.length ++ (F.drop (uv s.length).length).take (k - (uv s.length).length) := by
    have := List.take_add (l := F) (i := (uv s.length).length) (j := k - (uv s.length).length)
    rw [show (uv s.length).length + (k - (uv s.length).length) = k by omega] at this
    rw [this]
    congr 1
    have e3 := congrArg (List.take (uv s.length).length) hb
    rw [List.take_left] at e3
    exact e3
  have := noF_changed hs (Ne.symm hy) e1
  rw [e2, List.append_assoc, List.append_assoc, List.singleton_append]
  exact this
theorem same_scans {s F : List UInt8} (hs : Short s) (hF : frameL s = F) {k : Nat} (h2 : k < F.length) : F.take k ++ [F[k]] ++ F.drop (k + 1) = F ∧ Scans F [s] [] := by
  constructor
  · rw [List.append_assoc, List.singleton_append, ← List.drop_eq_getElem_cons h2, List.take_append_drop]
  · have := scans_row (L := [s]) (by intro t ht; simp at ht; subst ht; exact hs)
    rw [← hF]
    simpa [rowF] using this
theorem one_at {B : Nat} {s : Byts} {A : Option Addr} {cap : Nat} {w : World} (h : NewT B (.slice A [s].length cap) [s] w) : ∃ ad, A = some ad ∧ ad.block < w.heap.size ∧ w.cell? ad = some (.string (str s)) := by
  obtain ⟨A', c', e, h1⟩ := h.at
  injection e with e1 _ e3
  subst e1 e3
  obtain ⟨_, ad, rfl, h2, h3⟩ := h1.2.2 0 (by simp)
  exact ⟨ad, rfl, h2, h3⟩
set_option maxHeartbeats 1000000 in
theorem law_FrameChanged (a0 : ByteArray) (a1 : Int) (a2 : Int) (w : World) (w0 : a0.size ≤ maxLen) (w1 : (Lit.int .i64 a1).wf = true) (w2 : (Lit.int .u8 a2).wf = true) (hT : Halves w) :
    Calls Tryd.prog 6 #[.string a0, .int .i64 a1, .int .u8 a2] w fun e w' => e = .returned (.bool true) ∧ Below w.heap.size w w' := by
  obtain ⟨s, rfl⟩ := str_of a0
  rw [str_size] at w0
  unfold maxLen at w0
  obtain ⟨r1, r2⟩ := bounds_i64 w1
  obtain ⟨r3, r4⟩ := bounds_u8 w2
  obtain ⟨b, rfl⟩ : ∃ k : Nat, a2 = k := ⟨a2.toNat, by omega⟩
  by_cases h0 : (2048 : Int) < s.length
  · go_enter Tryd.func6, Tryd.ntmps6
    go_wp2
    go_ret
    exact ⟨rfl, Below.refl _ _⟩
  have C1 := Lib.hid (fun W (hW : Below w.heap.size w W) => frame_c s W (by omega) (hT.below hW))
  have C2 := Lib.hid (fun W => refFrame_c s W (by omega))
  have hul := uv_len10 (n := s.length) (by omega)
  have hlen : (frameL s).length = (uv s.length).length + s.length + 2 := by rw [frameL_len]; simp [tx]
  have hs : Short s := by show _ < _; omega
  obtain ⟨F, hF⟩ : ∃ F, frameL s = F := ⟨_, rfl⟩
  rw [hF] at C1 C2 hlen
  obtain ⟨h, hh⟩ : ∃ h, (uv s.length).length = h := ⟨_, rfl⟩
  rw [hh] at hlen hul
  obtain ⟨t, ht⟩ : ∃ t : Int, a1.tmod ((s.length : Int) + 2) = t := ⟨_, rfl⟩
  have ht1 : -((s.length : Int) + 2) < t := by rw [← ht]; exact Int.lt_tmod_of_pos _ (by omega)
  have ht2 : t < (s.length : Int) + 2 := by rw [← ht]; exact Int.tmod_lt_of_pos _ (by omega)
  obtain ⟨j, hj⟩ : ∃ j : Nat, (t + s.length + 2) % ((s.length : Int) + 2) = j := ⟨((t + s.length + 2) % ((s.length : Int) + 2)).toNat, by have := Int.emod_nonneg (t + s.length + 2) (show (s.length : Int) + 2 ≠ 0 by omega); omega⟩
  have hj2 : (j : Int) < (s.length : Int) + 2 := by rw [← hj]; exact Int.emod_lt_of_pos _ (by omega)
  obtain ⟨k, hk⟩ : ∃ k, h + j = k := ⟨_, rfl⟩
  have hkF : k < F.length := by omega
  obtain ⟨x, hx⟩ : ∃ x, F[k]'hkF = x := ⟨_, rfl⟩
  obtain ⟨X, hX⟩ : ∃ X, F.take k = X := ⟨_, rfl⟩
  obtain ⟨R, hR⟩ : ∃ R, F.drop (k + 1) = R := ⟨_, rfl⟩
  have d1 : (F.length : Int) - s.length - 2 = (h : Int) := by omega
  have d2 : (h : Int) + (j : Int) = (k : Int) := by omega
  obtain ⟨q, hq⟩ : ∃ q, (x.toNat + b) % 256 = q := ⟨_, rfl⟩
  obtain ⟨y, hy⟩ : ∃ y, UInt8.ofNat q = y := ⟨_, rfl⟩
  have hyn : y.toNat = q := by rw [← hy, toNat_ofNat_lt (by omega)]
  obtain ⟨G, hG⟩ : ∃ G, X ++ [y] ++ R = G := ⟨_, rfl⟩
  have hGl : G.length = F.length := by rw [← hG, ← hX, ← hR]; simp; omega
  by_cases hb0 : b = 0
  · subst hb0
    have hyx : y = x := by apply UInt8.toNat_inj.1; rw [hyn]; have := byte_lt x; omega
    obtain ⟨g1, g2⟩ := same_scans hs hF hkF
    rw [hX, hR, hx, ← hyx, hG] at g1
    rw [← g1] at g2
    have C3 := Lib.hid (fun W (hW : Below w.heap.size w W) => scan_is g2 (m := F.length) (by rw [hGl]; simp) W (by omega) (hT.below hW))
    have t2 : ¬ (F.length : Int) < 3 := by have := uv_pos s.length; omega
    have t3 : F.length ≤ 3000 := by omega
    have c1 : (x.toNat : Int) = (q : Int) := by have := byte_lt x; omega
    have c2 : IntKind.u8.wrap (q : Int) = (q : Int) := by rw [IntKind.wrap_u8]; omega
    have hXl : X.length ≤ 3000 := by rw [← hX, List.length_take]; omega
    have hRl : R.length ≤ 3000 := by rw [← hR, List.length_drop]; omega
    have hX2 : List.take k F = X := hX
    have hR2 : List.take (F.length - (k + 1)) (List.drop (k + 1) F) = R := by rw [hR, List.take_of_length_le]; rw [← hR, List.length_drop]; omega
    have HG2 : Hid (X ++ y :: R = G ∧ X ++ ([y] ++ R) = G) := by rw [← hG]; exact ⟨by simp, by simp⟩
    have HY := Lib.hid hy
    clear g1 g2 hX hR hG hGl hlen hF hh hul hyn hyx hq hy hs
    go_enter Tryd.func6, Tryd.ntmps6
    go_wp2_with (first
      | (go_at_call 11; refine (C1.out _ (Below.refl _ _)).mono ?_; rintro e v1 ⟨rfl, hb1⟩; dsimp only)
      | (go_at_call 12; refine (C2.out _).mono ?_; rintro e v2 ⟨rfl, hb2⟩; have hb3 := below2 hb1 hb2 hb1.size; dsimp only))
    have hcv := fun W => conv_one (P := Tryd.prog) 32 9 5 Tryd.underlying32 Tryd.underlying5 Tryd.underlying9 W (q : Int)
    rw [Int.toNat_natCast, HY.out] at hcv
    have hcvd : (convert 32 9 (.slice (some ⟨v2.heap.size, 0, none⟩) 1 1)).run Tryd.prog (v2.alloc (.cells #[.int .u8 (q : Int)] 5)).drew = .ok (.string (str [y])) (v2.alloc (.cells #[.int .u8 (q : Int)] 5)).drew := by
      have := hcv v2.drew
      exact this
    have e1 : ¬ 9223372036854775807 < X.length + 1 := by omega
    have e2 : ¬ 9223372036854775807 < X.length + 1 + R.length := by omega
    have e3 : (k : Int) + 1 ≤ (F.length : Int) := by omega
    have e4 : (0 : Int) ≤ (k : Int) + 1 := by omega
    have e5 : k + 1 ≤ F.length := by omega
    have hsl := fun (W : World) => run_slice_string_from_if (P := Tryd.prog) W 9 (str F) .i64 ((k : Int) + 1) Tryd.underlying9
    simp only [str_size, str_extract, e3, e4, and_self, if_true, show ((k : Int) + 1).toNat = k + 1 by omega, hR2] at hsl
    have s1 : IntKind.i64.wrap ((k : Int) + 1) = (k : Int) + 1 := IntWalk.i64_in _ (by omega)
    have hb4 : Below w.heap.size w (v2.alloc (.cells #[.int .u8 (q : Int)] 5)).drew := (hb3.alloc hb3.size _).drew
    go_region_with (fail)
    all_goals
      go_wp2_with (go_at_call 13; rw [HG2.out.1]; refine (C3.out _ hb4).mono ?_; rintro e v5 ⟨⟨A5, c5, rfl, hN5⟩, hb5⟩; have hb6 := below2 hb4 hb5 hb4.size; obtain ⟨ad, rfl, h2c, h3c⟩ := one_at hN5; dsimp only)
      go_ret
      exact ⟨by simp [go_sem], hb6⟩
  · have hyx : y ≠ x := fun e => by
      have h1 := congrArg UInt8.toNat e
      rw [hyn] at h1
      have := byte_lt x
      omega
    have g2 := changed_scans (X := X) (R := R) hs hF (k := k) (by omega) hkF y (by rw [hx]; exact hyx)
    rw [hX, hR, hG] at g2
    have C3 := Lib.hid (fun W (hW : Below w.heap.size w W) => scan_is g2 (m := 0) (by omega) W (by omega) (hT.below hW))
    have t1 : ((b : Int) == 0) = false := by simpa using hb0
    have t2 : ¬ (F.length : Int) < 3 := by have := uv_pos s.length; omega
    have t3 : F.length ≤ 3000 := by omega
    have c1 : IntKind.u8.wrap ((x.toNat : Int) + (b : Int)) = (q : Int) := by rw [IntKind.wrap_u8]; omega
    have hXl : X.length ≤ 3000 := by rw [← hX, List.length_take]; omega
    have hRl : R.length ≤ 3000 := by rw [← hR, List.length_drop]; omega
    have hX2 : List.take k F = X := hX
    have hR2 : List.take (F.length - (k + 1)) (List.drop (k + 1) F) = R := by rw [hR, List.take_of_length_le]; rw [← hR, List.length_drop]; omega
    have HG2 : Hid (X ++ y :: R = G ∧ X ++ ([y] ++ R) = G) := by rw [← hG]; exact ⟨by simp, by simp⟩
    have HY := Lib.hid hy
    clear g2 hX hR hG hGl hlen hF hh hul hyn hyx hq hy hb0 hs
    go_enter Tryd.func6, Tryd.ntmps6
    go_wp2_with (first
      | (go_at_call 11; refine (C1.out _ (Below.refl _ _)).mono ?_; rintro e v1 ⟨rfl, hb1⟩; dsimp only)
      | (go_at_call 12; refine (C2.out _).mono ?_; rintro e v2 ⟨rfl, hb2⟩; have hb3 := below2 hb1 hb2 hb1.size; dsimp only))
    have hcv := fun W => conv_one (P := Tryd.prog) 32 9 5 Tryd.underlying32 Tryd.underlying5 Tryd.underlying9 W (q : Int)
    rw [Int.toNat_natCast, HY.out] at hcv
    have hcvd : (convert 32 9 (.slice (some ⟨v2.heap.size, 0, none⟩) 1 1)).run Tryd.prog (v2.alloc (.cells #[.int .u8 (q : Int)] 5)).drew = .ok (.string (str [y])) (v2.alloc (.cells #[.int .u8 (q : Int)] 5)).drew := by
      have := hcv v2.drew
      exact this
    have e1 : ¬ 9223372036854775807 < X.length + 1 := by omega
    have e2 : ¬ 9223372036854775807 < X.length + 1 + R.length := by omega
    have e3 : (k : Int) + 1 ≤ (F.length : Int) := by omega
    have e4 : (0 : Int) ≤ (k : Int) + 1 := by omega
    have e5 : k + 1 ≤ F.length := by omega
    have hsl := fun (W : World) => run_slice_string_from_if (P := Tryd.prog) W 9 (str F) .i64 ((k : Int) + 1) Tryd.underlying9
    simp only [str_size, str_extract, e3, e4, and_self, if_true, show ((k : Int) + 1).toNat = k + 1 by omega, hR2] at hsl
    have s1 : IntKind.i64.wrap ((k : Int) + 1) = (k : Int) + 1 := IntWalk.i64_in _ (by omega)
    have hb4 : Below w.heap.size w (v2.alloc (.cells #[.int .u8 (q : Int)] 5)).drew := (hb3.alloc hb3.size _).drew
    go_region_with (fail)
    all_goals
      go_wp2_with (go_at_call 13; rw [HG2.out.1]; refine (C3.out _ hb4).mono ?_; rintro e v5 ⟨⟨A5, c5, rfl, hN5⟩, hb5⟩; have hb6 := below2 hb4 hb5 hb4.size; dsimp only)
      go_ret
      exact ⟨by simp [go_sem], hb6⟩
end Go.Proofs.YtfhcjlmolneooaaDoor
