/-
  Layer 8 (frame): the laws FrameSums, FrameScans, FrameApart return true.
-/
import Derived.Test.YtfhcjlmolneooaaDoorFrameRef
namespace Go.Proofs.YtfhcjlmolneooaaDoor
open Go.RowKit Go.Deep
attribute [local go_sem] str_size str_append str_toList str_get str_extract
set_option linter.unusedVariables false
set_option linter.unusedSimpArgs false
theorem scans_all (n : Nat) : ∀ s : List UInt8, s.length ≤ n → ∃ L r, Scans s L r ∧ r.length ≤ s.length := by
  induction n with
  | zero =>
    intro s h
    have : s = [] := List.length_eq_zero_iff.1 (by omega)
    subst this
    exact ⟨[], [], ⟨by simp, by simp [rowF], noF_nil⟩, Nat.le_refl _⟩
  | succ n ih =>
    intro s h
    by_cases hex : ∃ t q, Short t ∧ s = frameL t ++ q
    · obtain ⟨t, q, ht, rfl⟩ := hex
      have hl := frameL_long t
      rw [List.length_append] at h
      obtain ⟨L, r, h1, h2⟩ := ih q (by omega)
      refine ⟨t :: L, r, ?_, by rw [List.length_append]; omega⟩
      have := h1.joined (L := [t]) (by intro x hx; simp at hx; subst hx; exact ht)
      simpa [rowF] using this
    · exact ⟨[], s, ⟨by simp, by simp [rowF], fun t q ht e => hex ⟨t, q, ht, e⟩⟩, Nat.le_refl _⟩
theorem scans_len {s r : List UInt8} {L : List (List UInt8)} (h : Scans s L r) : r.length ≤ s.length ∧ L.length ≤ s.length := by
  have h1 := congrArg List.length h.2.1
  have h2 := rowF_long L
  rw [List.length_append] at h1
  omega
theorem scan_is {s r : List UInt8} {L : List Byts} (h : Scans s L r) {m : Nat} (hm : s.length - r.length = m) (w : World) (hs : s.length ≤ 1000000) (hH : Halves w) :
    Calls Tryd.prog 13 #[.string (str s)] w fun e w' => (∃ A cap, e = .returned (.tuple #[.slice A L.length cap, .int .i64 (m : Int)]) ∧ NewT w.heap.size (.slice A L.length cap) L w') ∧ Below w.heap.size w w' := by
  refine (scan_c s w hs hH).mono ?_
  rintro e w' ⟨⟨v, L', r', rfl, h', hN⟩, hb⟩
  obtain ⟨rfl, rfl⟩ := Scans.one h h'
  obtain ⟨A, cap, rfl, _⟩ := hN.at
  exact ⟨⟨A, cap, by rw [hm], hN⟩, hb⟩
theorem refScan_is {s r : List UInt8} {L : List Byts} (h : Scans s L r) {m : Nat} (hm : s.length - r.length = m) (w : World) (hs : s.length ≤ 1000000) :
    Calls Tryd.prog 14 #[.string (str s)] w fun e w' => (∃ A cap, e = .returned (.tuple #[.slice A L.length cap, .int .i64 (m : Int)]) ∧ NewT w.heap.size (.slice A L.length cap) L w') ∧ Below w.heap.size w w' := by
  refine (refScan_c s w hs).mono ?_
  rintro e w' ⟨⟨v, L', r', rfl, h', hN⟩, hb⟩
  obtain ⟨rfl, rfl⟩ := Scans.one h h'
  obtain ⟨A, cap, rfl, _⟩ := hN.at
  exact ⟨⟨A, cap, by rw [hm], hN⟩, hb⟩
/-- Two rows of the same texts. -/
theorem tsame_is {A A' : Option Addr} {cap cap' : Nat} {l : List Byts} {B B' : Nat} {w : World} (hl : l.length ≤ 9223372036854775807) (hA : NewT B (.slice A l.length cap) l w) (hB : NewT B' (.slice A' l.length cap') l w) :
    Calls Tryd.prog 15 #[.slice A l.length cap, .slice A' l.length cap'] w fun e w' => e = .returned (.bool true) ∧ Below w.heap.size w w' := by
  obtain ⟨_, _, e1, h1⟩ := hA.at
  obtain ⟨_, _, e2, h2⟩ := hB.at
  injection e1 with e1 _ e3
  injection e2 with e2 _ e4
  subst e1 e2 e3 e4
  have := tsame_c _ _ _ _ _ _ l l w hl hl h1 h2
  simpa using this
theorem empty3 : (frameL ([] : List UInt8)).length = 3 := by simp [frameL, tx, uv_lt, sumB]
set_option maxHeartbeats 1000000 in
theorem law_FrameSums (a0 : ByteArray) (w : World) (w0 : a0.size ≤ maxLen) (hT : Halves w) :
    Calls Tryd.prog 3 #[.string a0] w fun e w' => e = .returned (.bool true) ∧ Below w.heap.size w w' := by
  obtain ⟨s, rfl⟩ := str_of a0
  rw [str_size] at w0
  unfold maxLen at w0
  by_cases h0 : (2048 : Int) < s.length
  · go_enter Tryd.func3, Tryd.ntmps3
    go_wp2
    go_ret
    exact ⟨rfl, Below.refl _ _⟩
  have C1 := Lib.hid (crc_c s w (by omega) hT)
  have C2 := Lib.hid (fun W => refCrc_c s W (by omega))
  have C3 := Lib.hid (fun W (hW : Below w.heap.size w W) => frame_c s W (by omega) (hT.below hW))
  have C4 := Lib.hid (fun W => refFrame_c s W (by omega))
  go_enter Tryd.func3, Tryd.ntmps3
  go_wp2_with (first
    | (go_at_call 9; refine C1.out.mono ?_; rintro e w1 ⟨rfl, rfl⟩; dsimp only)
    | (go_at_call 10; refine (C2.out _).mono ?_; rintro e w2 ⟨rfl, hb2⟩; dsimp only)
    | (go_at_call 11; refine (C3.out _ hb2).mono ?_; rintro e w3 ⟨rfl, hb3⟩; have hb4 := below2 hb2 hb3 hb2.size; dsimp only)
    | (go_at_call 12; refine (C4.out _).mono ?_; rintro e w4 ⟨rfl, hb5⟩; have hb6 := below2 hb4 hb5 hb4.size; dsimp only))
  go_ret
  exact ⟨by simp [go_sem], hb6⟩
set_option maxHeartbeats 1000000 in
theorem law_FrameScans (a0 : ByteArray) (w : World) (w0 : a0.size ≤ maxLen) (hT : Halves w) :
    Calls Tryd.prog 4 #[.string a0] w fun e w' => e = .returned (.bool true) ∧ Below w.heap.size w w' := by
  obtain ⟨s, rfl⟩ := str_of a0
  rw [str_size] at w0
  unfold maxLen at w0
  by_cases h0 : (2048 : Int) < s.length
  · go_enter Tryd.func4, Tryd.ntmps4
    go_wp2
    go_ret
    exact ⟨rfl, Below.refl _ _⟩
  obtain ⟨L, r, hS, _⟩ := scans_all s.length s (Nat.le_refl _)
  have hlen := (scans_len hS).2
  obtain ⟨m, hm⟩ : ∃ m, s.length - r.length = m := ⟨_, rfl⟩
  have C1 := Lib.hid (scan_is hS hm w (by omega) hT)
  have C2 := Lib.hid (fun W => refScan_is hS hm W (by omega))
  have C3 := Lib.hid (fun W (hW : Below w.heap.size w W) => frame_c [] W (by simp) (hT.below hW))
  obtain ⟨E, hE⟩ : ∃ E, frameL [] = E := ⟨_, rfl⟩
  have hE3 := empty3
  rw [hE] at C3 hE3
  clear hS hm hE
  go_enter Tryd.func4, Tryd.ntmps4
  go_wp2_with (first
    | (go_at_call 13; refine C1.out.mono ?_; rintro e w1 ⟨⟨A1, c1, rfl, hN1⟩, hb1⟩; have HN1 := Lib.hid hN1; clear hN1; dsimp only)
    | (go_at_call 14; refine (C2.out _).mono ?_; rintro e w2 ⟨⟨A2, c2, rfl, hN2⟩, hb2⟩; have HN2 := Lib.hid (And.intro (HN1.out.below hb2) hN2); have hb3 := below2 hb1 hb2 hb1.size; clear hN2; dsimp only)
    | (go_at_call 15; refine (tsame_is (by omega) HN2.out.1 HN2.out.2).mono ?_; rintro e w3 ⟨rfl, hb4⟩; have hb5 := below2 hb3 hb4 hb3.size; dsimp only)
    | (go_at_call 11; refine (C3.out _ hb5).mono ?_; rintro e w3 ⟨rfl, hb6⟩; have hb7 := below2 hb5 hb6 hb5.size; dsimp only))
  go_ret
  exact ⟨by simp [go_sem], hb7⟩
theorem uv_two {n : Nat} (h1 : 127 < n) (h2 : n < 16384) : (uv n).length = 2 := by
  rw [uv_ge (by omega), List.length_cons, uv_lt (by omega)]; rfl
set_option maxHeartbeats 1000000 in
theorem law_FrameApart (a0 : ByteArray) (a1 : ByteArray) (w : World) (w0 : a0.size ≤ maxLen) (w1 : a1.size ≤ maxLen) (hT : Halves w) :
    Calls Tryd.prog 8 #[.string a0, .string a1] w fun e w' => e = .returned (.bool true) ∧ Below w.heap.size w w' := by
  obtain ⟨s, rfl⟩ := str_of a0
  obtain ⟨t, rfl⟩ := str_of a1
  rw [str_size] at w0 w1
  unfold maxLen at w0 w1
  by_cases h0 : (2048 : Int) < s.length
  · go_enter Tryd.func8, Tryd.ntmps8
    go_wp2
    go_ret
    exact ⟨rfl, Below.refl _ _⟩
  by_cases h1 : (2048 : Int) < t.length
  · go_enter Tryd.func8, Tryd.ntmps8
    go_wp2
    go_ret
    exact ⟨rfl, Below.refl _ _⟩
  have C1 := Lib.hid (fun W (hW : Below w.heap.size w W) => frame_c s W (by omega) (hT.below hW))
  have C2 := Lib.hid (fun W (hW : Below w.heap.size w W) => frame_c t W (by omega) (hT.below hW))
  have C3 := Lib.hid (fun W => refFrame_c s W (by omega))
  have hst : (frameL s == frameL t) = (s == t) := by
    by_cases h : s = t
    · subst h; simp
    · have : frameL s ≠ frameL t := fun e => h (frameL_inj (r := []) (q := []) (show _ < _ by omega) (show _ < _ by omega) (by rw [e])).1
      rw [beq_eq_false_iff_ne.2 h, beq_eq_false_iff_ne.2 this]
  have hlen : (frameL s).length = (uv s.length).length + s.length + 2 := by rw [frameL_len]; simp [tx]
  obtain ⟨F, hF⟩ : ∃ F, frameL s = F := ⟨_, rfl⟩
  obtain ⟨G, hG⟩ : ∃ G, frameL t = G := ⟨_, rfl⟩
  rw [hF] at C1 C3 hst hlen
  rw [hG] at C2 hst
  by_cases h2 : (127 : Int) < s.length
  · have hl : (F.length : Int) = (s.length : Int) + 3 + 1 := by rw [hlen, uv_two (by omega) (by omega)]; omega
    have hl2 : ((F.length : Int) == (s.length : Int) + 3 + 1) = true := by simpa using hl
    clear hF hG hlen hl
    go_enter Tryd.func8, Tryd.ntmps8
    go_wp2_with (first
      | (go_at_call_of 11 (Value.string (str s)); refine (C1.out _ (Below.refl _ _)).mono ?_; rintro e v1 ⟨rfl, hb1⟩; dsimp only)
      | (go_at_call 11; refine (C2.out _ hb1).mono ?_; rintro e v2 ⟨rfl, hb2⟩; have hb3 := below2 hb1 hb2 hb1.size; dsimp only)
      | (go_at_call 12; refine (C3.out _).mono ?_; rintro e v3 ⟨rfl, hb4⟩; have hb5 := below2 hb3 hb4 hb3.size; dsimp only))
    go_ret
    exact ⟨by simp [go_sem, hst], hb5⟩
  · have hl : (F.length : Int) = (s.length : Int) + 3 := by rw [hlen, uv_lt (by omega)]; simp; omega
    have hl2 : ((F.length : Int) == (s.length : Int) + 3) = true := by simpa using hl
    clear hF hG hlen hl
    go_enter Tryd.func8, Tryd.ntmps8
    go_wp2_with (first
      | (go_at_call_of 11 (Value.string (str s)); refine (C1.out _ (Below.refl _ _)).mono ?_; rintro e v1 ⟨rfl, hb1⟩; dsimp only)
      | (go_at_call 11; refine (C2.out _ hb1).mono ?_; rintro e v2 ⟨rfl, hb2⟩; have hb3 := below2 hb1 hb2 hb1.size; dsimp only)
      | (go_at_call 12; refine (C3.out _).mono ?_; rintro e v3 ⟨rfl, hb4⟩; have hb5 := below2 hb3 hb4 hb3.size; dsimp only))
    go_ret
    exact ⟨by simp [go_sem, hst], hb5⟩
end Go.Proofs.YtfhcjlmolneooaaDoor
