/-
  Texts of the same seat, one behind the other (merged; each says at its head what it is).
-/
import Derived.Test.YtdbifbgjbfnfmaaDoorM09
/-
  Layer 4 (label): a run and a single label behind it become one.
-/
namespace Go.Proofs.YtdbifbgjbfnfmaaDoor
open Go.RowKit Go.Deep
attribute [local go_sem] str_size str_append str_toList str_get str_extract
set_option linter.unusedVariables false
set_option linter.unusedSimpArgs false
set_option maxRecDepth 100000 in
set_option maxHeartbeats 4000000 in
theorem symm_last (g B N cap a m b : Nat) (P A S : List Lab) (x : Lab) (w : World) (hg : B ≤ g) (hB : B ≤ w.heap.size) (ha : a = P.length) (hm : m = a + A.length) (hb : b = m + 1) (hA2 : 2 ≤ A.length) (hA : SortedN A) (hN : b ≤ N) (hn : N ≤ 4096) (hr : RowL g (P ++ A ++ x :: S) w) :
    Calls Tryd.prog 121 #[.slice (some ⟨g, 0, none⟩) N cap, .int .i64 (a : Int), .int .i64 (m : Int), .int .i64 (b : Int), .func (.func 80) #[] #[]] w fun e w' => e = .returned (.tuple #[]) ∧ (∃ D, RowL g (P ++ D ++ S) w' ∧ SortedN D ∧ Stb D (A ++ [x]) ∧ D.length = A.length + 1) ∧ Below B w w' := by
  have HA := Lib.hid (And.intro ha (And.intro hm hb))
  obtain ⟨al, hal⟩ : ∃ al, A.length = al := ⟨_, rfl⟩
  have em1 : (m : Int) - (a : Int) = (al : Int) := by omega
  have em2 : (b : Int) - (m : Int) = 1 := by omega
  have n1 : ((al : Int) == 1) = false := by rw [beq_eq_false_iff_ne]; omega
  have ham : a + 2 ≤ m := by omega
  have hmN : m < N := by omega
  have HAL := Lib.hid hal
  have HR0 := Lib.hid hr
  clear hr ha hm hb hA2 hal
  go_enter Tryd.func121, Tryd.ntmps121
  go_wp2_with fail
  go_loopw [14, 15] (fun c d wr => ∃ i j : Nat, c = .int .i64 i ∧ d = .int .i64 j ∧ a ≤ i ∧ i ≤ j ∧ j ≤ m ∧ RowL g (P ++ A ++ x :: S) wr ∧ Hid ((a < i → ltN x (atN A (i - 1 - a)) = false) ∧ (j < m → ltN x (atN A (j - a)) = true)) ∧ Below B w wr) (fun c d _ => (intOf d).toNat - (intOf c).toNat)
  case atStart => exact ⟨a, m, rfl, rfl, by omega, by omega, by omega, HR0.out, ⟨fun h => by omega, fun h => by omega⟩, Below.refl _ _⟩
  case round =>
    obtain ⟨i, j, rfl, rfl, hmi, hij, hjb, hrow, HI, hbw⟩ := hrel
    by_cases hlt : i < j
    · obtain ⟨h, hh⟩ : ∃ h, h = (i + j) / 2 := ⟨_, rfl⟩
      have eh := half_eq i j h hh
      have hih : i ≤ h := by omega
      have hhj : h < j := by omega
      obtain ⟨y, hy⟩ : ∃ y, atN A (h - a) = y := ⟨_, rfl⟩
      have hyl : atN (P ++ A ++ x :: S) h = y := by
        have h1 := HA.out
        rw [List.append_assoc, atN_right (by omega), atN_left (by omega), ← hy, h1.1]
      have hxl : atN (P ++ A ++ x :: S) m = x := by
        have h1 := HA.out
        rw [atN_right (by simp; omega)]
        rw [show m - (P ++ A).length = 0 by simp; omega]
        rfl
      have hll : (P ++ A ++ x :: S).length = m + 1 + S.length := by have h1 := HA.out; simp; omega
      have hS : ∀ W, Below wr.heap.size wr W → W.cell? ⟨g, h * 2, none⟩ = some (.string (str y.1)) ∧ W.cell? ⟨g, h * 2 + 1, none⟩ = some (.string (str y.2)) ∧ W.cell? ⟨g, m * 2, none⟩ = some (.string (str x.1)) ∧ W.cell? ⟨g, m * 2 + 1, none⟩ = some (.string (str x.2)) ∧ Below wr.heap.size wr W := by
        intro W hW
        have hrW := hrow.below hW
        obtain ⟨y0, y1⟩ := hrW.gat (i := h) (by rw [hll]; omega) y hyl
        obtain ⟨x0, x1⟩ := hrW.gat (i := m) (by rw [hll]; omega) x hxl
        exact ⟨y0, y1, x0, x1, hW⟩
      have HS := Lib.hid hS
      have cc := fun W => cmp_c x y W
      obtain ⟨c, hc⟩ : ∃ c, cmpN x y = c := ⟨_, rfl⟩
      rw [hc] at cc
      have HC := Lib.hid hc
      have HY := Lib.hid hy
      have HROW := Lib.hid hrow
      have ih : (0 : Int) ≤ (h : Int) ∧ (h : Int) < (N : Int) := by omega
      have ia : (0 : Int) ≤ (m : Int) ∧ (m : Int) < (N : Int) := by omega
      clear hS hc hrow hyl hxl hll hh hy
      go_wp2_with fail
      refine wp_region_held_drew (S := fun W => W.cell? ⟨g, h * 2, none⟩ = some (.string (str y.1)) ∧ W.cell? ⟨g, h * 2 + 1, none⟩ = some (.string (str y.2)) ∧ W.cell? ⟨g, m * 2, none⟩ = some (.string (str x.1)) ∧ W.cell? ⟨g, m * 2 + 1, none⟩ = some (.string (str x.2)) ∧ Below wr.heap.size wr W) (by kernel_rfl) (HS.out _ ((Below.refl _ _).drew)) (fun hHeld => ?_)
      refine held_w (i := 0) (d := some 92) (v := ?_) rfl (by kernel_rfl) (by kernel_rfl) (by kernel_rfl) (fun _ _ _ h => h) (by rfl) ?_ hHeld ?_
      rotate_left
      · intro w' hSw; obtain ⟨q0, q1, q2, q3, q4⟩ := hSw; simp only [List.getElem?_toArray, List.getElem?_cons_zero, List.getElem?_cons_succ]; go_simp; try with_reducible rfl
      try simp only [Act.put, List.setIfInBounds_toArray, List.set_cons_zero, List.set_cons_succ]
      refine held_w (i := 1) (d := some 93) (v := ?_) rfl (by kernel_rfl) (by kernel_rfl) (by kernel_rfl) (fun _ _ _ h => h) (by rfl) ?_ hHeld ?_
      rotate_left
      · intro w' hSw; obtain ⟨q0, q1, q2, q3, q4⟩ := hSw; simp only [List.getElem?_toArray, List.getElem?_cons_zero, List.getElem?_cons_succ]; go_simp; try with_reducible rfl
      try simp only [Act.put, List.setIfInBounds_toArray, List.set_cons_zero, List.set_cons_succ]
      refine held_w (i := 2) (d := some 94) (v := ?_) rfl (by kernel_rfl) (by kernel_rfl) (by kernel_rfl) (fun _ _ _ h => h) (by rfl) ?_ hHeld ?_
      rotate_left
      · intro w' hSw; obtain ⟨q0, q1, q2, q3, q4⟩ := hSw; simp only [List.getElem?_toArray, List.getElem?_cons_zero, List.getElem?_cons_succ]; go_simp; try with_reducible rfl
      try simp only [Act.put, List.setIfInBounds_toArray, List.set_cons_zero, List.set_cons_succ]
      refine held_w (i := 3) (d := some 95) (v := ?_) rfl (by kernel_rfl) (by kernel_rfl) (by kernel_rfl) (fun _ _ _ h => h) (by rfl) ?_ hHeld ?_
      rotate_left
      · intro w' hSw; obtain ⟨q0, q1, q2, q3, q4⟩ := hSw; simp only [List.getElem?_toArray, List.getElem?_cons_zero, List.getElem?_cons_succ]; go_simp; try with_reducible rfl
      try simp only [Act.put, List.setIfInBounds_toArray, List.set_cons_zero, List.set_cons_succ]
      refine held_w (i := 4) (d := some 96) (v := ?_) rfl (by kernel_rfl) (by kernel_rfl) (by kernel_rfl) (fun _ _ _ h => h) (by rfl) ?_ hHeld ?_
      rotate_left
      · intro w' hSw; obtain ⟨q0, q1, q2, q3, q4⟩ := hSw; simp only [List.getElem?_toArray, List.getElem?_cons_zero, List.getElem?_cons_succ]; go_simp; try with_reducible rfl
      try simp only [Act.put, List.setIfInBounds_toArray, List.set_cons_zero, List.set_cons_succ]
      refine held_w (i := 5) (d := some 97) (v := ?_) rfl (by kernel_rfl) (by kernel_rfl) (by kernel_rfl) (fun _ _ _ h => h) (by rfl) ?_ hHeld ?_
      rotate_left
      · intro w' hSw; obtain ⟨q0, q1, q2, q3, q4⟩ := hSw; simp only [List.getElem?_toArray, List.getElem?_cons_zero, List.getElem?_cons_succ]; go_simp; try with_reducible rfl
      try simp only [Act.put, List.setIfInBounds_toArray, List.set_cons_zero, List.set_cons_succ]
      refine held_w (i := 6) (d := some 98) (v := ?_) rfl (by kernel_rfl) (by kernel_rfl) (by kernel_rfl) (fun _ _ _ h => h) (by rfl) ?_ hHeld ?_
      rotate_left
      · intro w' hSw; obtain ⟨q0, q1, q2, q3, q4⟩ := hSw; simp only [List.getElem?_toArray, List.getElem?_cons_zero, List.getElem?_cons_succ]; go_simp; try with_reducible rfl
      try simp only [Act.put, List.setIfInBounds_toArray, List.set_cons_zero, List.set_cons_succ]
      refine held_w (i := 7) (d := some 99) (v := ?_) rfl (by kernel_rfl) (by kernel_rfl) (by kernel_rfl) (fun _ _ _ h => h) (by rfl) ?_ hHeld ?_
      rotate_left
      · intro w' hSw; obtain ⟨q0, q1, q2, q3, q4⟩ := hSw; simp only [List.getElem?_toArray, List.getElem?_cons_zero, List.getElem?_cons_succ]; go_simp; try with_reducible rfl
      try simp only [Act.put, List.setIfInBounds_toArray, List.set_cons_zero, List.set_cons_succ]
      refine held_w (i := 8) (d := some 100) (v := ?_) rfl (by kernel_rfl) (by kernel_rfl) (by kernel_rfl) (fun _ _ _ h => h) (by rfl) ?_ hHeld ?_
      rotate_left
      · intro w' hSw; obtain ⟨q0, q1, q2, q3, q4⟩ := hSw; simp only [List.getElem?_toArray, List.getElem?_cons_zero, List.getElem?_cons_succ]; go_simp; try with_reducible rfl
      try simp only [Act.put, List.setIfInBounds_toArray, List.set_cons_zero, List.set_cons_succ]
      refine held_c (i := 9) (by kernel_rfl) (by rfl) (fun K hK => ?_)
      simp only [List.getElem?_toArray, List.getElem?_cons_zero, List.getElem?_cons_succ]
      go_simp
      refine (cc _).mono ?_
      rintro e w3 ⟨rfl, hb3⟩
      have hb4 := hHeld.2.2.2.2.trans (hb3.mono hHeld.2.2.2.2.size)
      refine hK.out _ _ (HS.out _ hb4) (fun hHeld => ?_)
      clear hK hb3
      try simp only [Act.put, List.setIfInBounds_toArray, List.set_cons_zero, List.set_cons_succ]
      refine held_w (i := 10) (d := some 102) (v := ?_) rfl (by kernel_rfl) (by kernel_rfl) (by kernel_rfl) (fun _ _ _ h => h) (by rfl) ?_ hHeld ?_
      rotate_left
      · intro w' hSw; obtain ⟨q0, q1, q2, q3, q4⟩ := hSw; simp only [List.getElem?_toArray, List.getElem?_cons_zero, List.getElem?_cons_succ]; go_simp; try with_reducible rfl
      try simp only [Act.put, List.setIfInBounds_toArray, List.set_cons_zero, List.set_cons_succ]
      refine held_w (i := 11) (d := some 103) (v := ?_) rfl (by kernel_rfl) (by kernel_rfl) (by kernel_rfl) (fun _ _ _ h => h) (by rfl) ?_ hHeld ?_
      rotate_left
      · intro w' hSw; obtain ⟨q0, q1, q2, q3, q4⟩ := hSw; simp only [List.getElem?_toArray, List.getElem?_cons_zero, List.getElem?_cons_succ]; go_simp; try with_reducible rfl
      try simp only [Act.put, List.setIfInBounds_toArray, List.set_cons_zero, List.set_cons_succ]
      refine wpAnyH_done (by kernel_rfl) ?_ _
      skip
      have hbq := hHeld.2.2.2.2
      have hrW := Lib.hid (HROW.out.below hbq)
      have hbB : Below B w w3 := hbw.trans (hbq.mono (by have := hbw.size; omega))
      clear hHeld hb4 hbq
      cases hlt2 : ltN x y with
      | false =>
        have hcl0 : ¬ c < 0 := by rw [← HC.out]; exact cmpN_ge hlt2
        rw [decide_eq_false hcl0, Bool.not_false]
        clear hcl0
        have HI2 : Hid ((a < h + 1 → ltN x (atN A (h + 1 - 1 - a)) = false) ∧ (j < m → ltN x (atN A (j - a)) = true)) := ⟨fun _ => by rw [Nat.add_sub_cancel, HY.out]; exact hlt2, HI.out.2⟩
        clear hlt2
        go_wp2_with fail
        go_roundw
        case rel => exact ⟨h + 1, j, by go_num, rfl, by omega, by omega, hjb, hrW.out, HI2.out, hbB⟩
        case measure => simp [intOf]; omega
      | true =>
        have hcl0 : c < 0 := by rw [← HC.out]; exact cmpN_lt hlt2
        rw [decide_eq_true hcl0, Bool.not_true]
        clear hcl0
        have HI2 : Hid ((a < i → ltN x (atN A (i - 1 - a)) = false) ∧ (h < m → ltN x (atN A (h - a)) = true)) := ⟨HI.out.1, fun _ => by rw [HY.out]; exact hlt2⟩
        clear hlt2
        go_wp2_with fail
        go_roundw
        case rel => exact ⟨i, h, rfl, rfl, hmi, by omega, by omega, hrW.out, HI2.out, hbB⟩
        case measure => simp [intOf]; omega
    · obtain rfl : i = j := by omega
      obtain ⟨k0, hk0⟩ : ∃ k0, k0 = i - a := ⟨_, rfl⟩
      have hkA : k0 ≤ A.length := by have h1 := HA.out; omega
      have hmf := merge_last (x := x) hA hkA (fun h => by have := HI.out.1 (by omega); rw [show k0 - 1 = i - 1 - a by omega]; exact this) (fun h => by have h1 := HA.out; have := HI.out.2 (by omega); rw [hk0]; exact this)
      have HMF := Lib.hid hmf
      have hAs : A = A.take k0 ++ A.drop k0 := (List.take_append_drop k0 A).symm
      obtain ⟨A1, hA1e⟩ : ∃ A1, A.take k0 = A1 := ⟨_, rfl⟩
      obtain ⟨A2, hA2e⟩ : ∃ A2, A.drop k0 = A2 := ⟨_, rfl⟩
      have hA1l : A1.length = k0 := by rw [← hA1e, List.length_take]; omega
      have hAA : A.length = k0 + A2.length := by rw [← hA2e, List.length_drop]; omega
      rw [hA1e, hA2e] at hAs HMF
      rw [hAs] at hrow
      have HROW := Lib.hid (show RowL g (P ++ A1 ++ A2.take A2.length ++ x :: (A2.drop A2.length ++ S)) wr by rw [List.take_length, List.drop_length]; simpa using hrow)
      have hik : i = a + k0 := by omega
      have him : m = i + A2.length := by have h1 := HA.out; omega
      have HIK := Lib.hid (And.intro hik him)
      have HL := Lib.hid (And.intro hA1l hAA)
      clear hmf hA1e hA2e hAs hrow HI hk0 em1 em2 hik him hA1l hAA hkA
      go_wp2_with fail
      obtain ⟨wo, rfl⟩ : ∃ wo : World, wo = wr := ⟨_, rfl⟩
      go_loopw [17] (fun c wr => ∃ k : Nat, c = .int .i64 k ∧ i ≤ k ∧ k ≤ m ∧ Hid (RowL g (P ++ A1 ++ A2.take (k - i) ++ x :: (A2.drop (k - i) ++ S)) wr) ∧ Below B w wr) (fun c _ => (intOf c).toNat)
      case atStart => exact ⟨m, rfl, by have := HIK.out.2; omega, Nat.le_refl _, by rw [show m - i = A2.length by have := HIK.out.2; omega]; exact HROW.out, hbw⟩
      case round =>
        obtain ⟨k, rfl, hki, hkm, hrow, hbr⟩ := hrel
        by_cases htk : i < k
        · obtain ⟨u, rfl⟩ : ∃ u, k = u + 1 := ⟨k - 1, by omega⟩
          have hul : u - i < A2.length := by have := HIK.out.2; omega
          obtain ⟨z, hz⟩ : ∃ z, A2[u - i]'hul = z := ⟨_, rfl⟩
          have e0 : u + 1 - i = (u - i) + 1 := by omega
          have e1 : A2.take (u + 1 - i) = A2.take (u - i) ++ [z] := by rw [e0, List.take_succ_eq_append_getElem hul, hz]
          have e2 : A2.drop (u - i) = z :: A2.drop (u + 1 - i) := by rw [List.drop_eq_getElem_cons hul, hz, e0]
          have hrow' : RowL g ((P ++ A1 ++ A2.take (u - i)) ++ z :: x :: (A2.drop (u + 1 - i) ++ S)) wr := by have h := hrow.out; rw [e1] at h; simpa using h
          have hDl : u = (P ++ A1 ++ A2.take (u - i)).length := by have h1 := HA.out; have h2 := HIK.out; have h3 := HL.out; simp; omega
          obtain ⟨y0, y1, fy0, fy1⟩ := hrow'.get u hDl
          obtain ⟨x0, x1, fx0, fx1⟩ := RowL.get (g := g) (D := (P ++ A1 ++ A2.take (u - i)) ++ [z]) (x := x) (E := A2.drop (u + 1 - i) ++ S) (w := wr) (by simpa using hrow') (u + 1) (by simp at hDl ⊢; omega)
          have iu : (0 : Int) ≤ (u : Int) ∧ (u : Int) < (N : Int) := by omega
          have iv : (0 : Int) ≤ (u : Int) + 1 ∧ (u : Int) + 1 < (N : Int) := by omega
          have wu : IntKind.i64.wrap (u : Int) = (u : Int) := IntWalk.i64_in _ (by omega)
          have hui : (i : Int) < (u : Int) + 1 := by omega
          have HP2 := Lib.hid (fun W (hW : RowL g ((P ++ A1 ++ A2.take (u - i)) ++ z :: x :: (A2.drop (u + 1 - i) ++ S)) W) => put_two hW u hDl)
          have HRR := Lib.hid hrow'
          have HE2 : Hid (P ++ A1 ++ A2.take (u - i) ++ x :: z :: (A2.drop (u + 1 - i) ++ S) = P ++ A1 ++ A2.take (u - i) ++ x :: (A2.drop (u - i) ++ S)) := by show _ = _; rw [e2]; simp
          clear e0 e1 e2 hz hrow hrow' hDl
          go_wp2_with fail
          refine wp_region_held_drew (S := fun _ => True) (by kernel_rfl) trivial (fun hHeld => ?_)
          refine held_w (i := 0) (d := some 113) (v := ?_) rfl (by kernel_rfl) (by kernel_rfl) (by kernel_rfl) (fun _ _ _ h => h) (by rfl) ?_ hHeld ?_
          rotate_left
          · intro w' hSw; obtain ⟨q0⟩ := hSw; simp only [List.getElem?_toArray, List.getElem?_cons_zero, List.getElem?_cons_succ]; go_simp; try with_reducible rfl
          try simp only [Act.put, List.setIfInBounds_toArray, List.set_cons_zero, List.set_cons_succ]
          refine held_w (i := 1) (d := some 114) (v := ?_) rfl (by kernel_rfl) (by kernel_rfl) (by kernel_rfl) (fun _ _ _ h => h) (by rfl) ?_ hHeld ?_
          rotate_left
          · intro w' hSw; obtain ⟨q0⟩ := hSw; simp only [List.getElem?_toArray, List.getElem?_cons_zero, List.getElem?_cons_succ]; go_simp; try with_reducible rfl
          try simp only [Act.put, List.setIfInBounds_toArray, List.set_cons_zero, List.set_cons_succ]
          refine held_w (i := 2) (d := some 115) (v := ?_) rfl (by kernel_rfl) (by kernel_rfl) (by kernel_rfl) (fun _ _ _ h => h) (by rfl) ?_ hHeld ?_
          rotate_left
          · intro w' hSw; obtain ⟨q0⟩ := hSw; simp only [List.getElem?_toArray, List.getElem?_cons_zero, List.getElem?_cons_succ]; go_simp; try with_reducible rfl
          try simp only [Act.put, List.setIfInBounds_toArray, List.set_cons_zero, List.set_cons_succ]
          refine held_w (i := 3) (d := some 116) (v := ?_) rfl (by kernel_rfl) (by kernel_rfl) (by kernel_rfl) (fun _ _ _ h => h) (by rfl) ?_ hHeld ?_
          rotate_left
          · intro w' hSw; obtain ⟨q0⟩ := hSw; simp only [List.getElem?_toArray, List.getElem?_cons_zero, List.getElem?_cons_succ]; go_simp; try with_reducible rfl
          try simp only [Act.put, List.setIfInBounds_toArray, List.set_cons_zero, List.set_cons_succ]
          refine held_w (i := 4) (d := some 117) (v := ?_) rfl (by kernel_rfl) (by kernel_rfl) (by kernel_rfl) (fun _ _ _ h => h) (by rfl) ?_ hHeld ?_
          rotate_left
          · intro w' hSw; obtain ⟨q0⟩ := hSw; simp only [List.getElem?_toArray, List.getElem?_cons_zero, List.getElem?_cons_succ]; go_simp; try with_reducible rfl
          try simp only [Act.put, List.setIfInBounds_toArray, List.set_cons_zero, List.set_cons_succ]
          refine held_w (i := 5) (d := some 118) (v := ?_) rfl (by kernel_rfl) (by kernel_rfl) (by kernel_rfl) (fun _ _ _ h => h) (by rfl) ?_ hHeld ?_
          rotate_left
          · intro w' hSw; obtain ⟨q0⟩ := hSw; simp only [List.getElem?_toArray, List.getElem?_cons_zero, List.getElem?_cons_succ]; go_simp; try with_reducible rfl
          try simp only [Act.put, List.setIfInBounds_toArray, List.set_cons_zero, List.set_cons_succ]
          refine held_w (i := 6) (d := some 119) (v := ?_) rfl (by kernel_rfl) (by kernel_rfl) (by kernel_rfl) (fun _ _ _ h => h) (by rfl) ?_ hHeld ?_
          rotate_left
          · intro w' hSw; obtain ⟨q0⟩ := hSw; simp only [List.getElem?_toArray, List.getElem?_cons_zero, List.getElem?_cons_succ]; go_simp; try with_reducible rfl
          try simp only [Act.put, List.setIfInBounds_toArray, List.set_cons_zero, List.set_cons_succ]
          refine held_w (i := 7) (d := some 120) (v := ?_) rfl (by kernel_rfl) (by kernel_rfl) (by kernel_rfl) (fun _ _ _ h => h) (by rfl) ?_ hHeld ?_
          rotate_left
          · intro w' hSw; obtain ⟨q0⟩ := hSw; simp only [List.getElem?_toArray, List.getElem?_cons_zero, List.getElem?_cons_succ]; go_simp; try with_reducible rfl
          try simp only [Act.put, List.setIfInBounds_toArray, List.set_cons_zero, List.set_cons_succ]
          refine held_w (i := 8) (d := some 121) (v := ?_) rfl (by kernel_rfl) (by kernel_rfl) (by kernel_rfl) (fun _ _ _ h => h) (by rfl) ?_ hHeld ?_
          rotate_left
          · intro w' hSw; obtain ⟨q0⟩ := hSw; simp only [List.getElem?_toArray, List.getElem?_cons_zero, List.getElem?_cons_succ]; go_simp; try with_reducible rfl
          try simp only [Act.put, List.setIfInBounds_toArray, List.set_cons_zero, List.set_cons_succ]
          refine held_w (i := 10) (d := some 123) (v := ?_) rfl (by kernel_rfl) (by kernel_rfl) (by kernel_rfl) (fun _ _ _ h => h) (by rfl) ?_ hHeld ?_
          rotate_left
          · intro w' hSw; obtain ⟨q0⟩ := hSw; simp only [List.getElem?_toArray, List.getElem?_cons_zero, List.getElem?_cons_succ]; go_simp; try with_reducible rfl
          try simp only [Act.put, List.setIfInBounds_toArray, List.set_cons_zero, List.set_cons_succ]
          refine held_w (i := 11) (d := some 124) (v := ?_) rfl (by kernel_rfl) (by kernel_rfl) (by kernel_rfl) (fun _ _ _ h => h) (by rfl) ?_ hHeld ?_
          rotate_left
          · intro w' hSw; obtain ⟨q0⟩ := hSw; simp only [List.getElem?_toArray, List.getElem?_cons_zero, List.getElem?_cons_succ]; go_simp; try with_reducible rfl
          try simp only [Act.put, List.setIfInBounds_toArray, List.set_cons_zero, List.set_cons_succ]
          refine held_w (i := 12) (d := some 125) (v := ?_) rfl (by kernel_rfl) (by kernel_rfl) (by kernel_rfl) (fun _ _ _ h => h) (by rfl) ?_ hHeld ?_
          rotate_left
          · intro w' hSw; obtain ⟨q0⟩ := hSw; simp only [List.getElem?_toArray, List.getElem?_cons_zero, List.getElem?_cons_succ]; go_simp; try with_reducible rfl
          try simp only [Act.put, List.setIfInBounds_toArray, List.set_cons_zero, List.set_cons_succ]
          refine held_many (rs := [9, 13]) (by kernel_rfl) (by simp) ⟨?_, ?_, trivial⟩
          · refine ⟨by rfl, fun K hK => ?_⟩
            simp only [List.getElem?_toArray, List.getElem?_cons_zero, List.getElem?_cons_succ]
            go_simp
            refine hK.out _ _ trivial (fun hHeld => ?_)
            clear hK K
            try simp only [Act.put, List.setIfInBounds_toArray, List.set_cons_zero, List.set_cons_succ]
            refine held_c (i := 13) (by kernel_rfl) (by rfl) (fun K hK => ?_)
            simp only [List.getElem?_toArray, List.getElem?_cons_zero, List.getElem?_cons_succ]
            go_simp
            refine hK.out _ _ trivial (fun hHeld => ?_)
            clear hK K
            try simp only [Act.put, List.setIfInBounds_toArray, List.set_cons_zero, List.set_cons_succ]
            refine held_w (i := 14) (d := some 127) (v := ?_) rfl (by kernel_rfl) (by kernel_rfl) (by kernel_rfl) (fun _ _ _ h => h) (by rfl) ?_ hHeld ?_
            rotate_left
            · intro w' hSw; obtain ⟨q0⟩ := hSw; simp only [List.getElem?_toArray, List.getElem?_cons_zero, List.getElem?_cons_succ]; go_simp; try with_reducible rfl
            try simp only [Act.put, List.setIfInBounds_toArray, List.set_cons_zero, List.set_cons_succ]
            refine held_c (i := 15) (by kernel_rfl) (by rfl) (fun K hK => ?_)
            simp only [List.getElem?_toArray, List.getElem?_cons_zero, List.getElem?_cons_succ]
            go_simp
            refine hK.out _ _ trivial (fun hHeld => ?_)
            clear hK K
            try simp only [Act.put, List.setIfInBounds_toArray, List.set_cons_zero, List.set_cons_succ]
            refine held_w (i := 16) (d := some 128) (v := ?_) rfl (by kernel_rfl) (by kernel_rfl) (by kernel_rfl) (fun _ _ _ h => h) (by rfl) ?_ hHeld ?_
            rotate_left
            · intro w' hSw; obtain ⟨q0⟩ := hSw; simp only [List.getElem?_toArray, List.getElem?_cons_zero, List.getElem?_cons_succ]; go_simp; try with_reducible rfl
            try simp only [Act.put, List.setIfInBounds_toArray, List.set_cons_zero, List.set_cons_succ]
            refine held_c (i := 17) (by kernel_rfl) (by rfl) (fun K hK => ?_)
            simp only [List.getElem?_toArray, List.getElem?_cons_zero, List.getElem?_cons_succ]
            go_simp
            refine hK.out _ _ trivial (fun hHeld => ?_)
            clear hK K
            try simp only [Act.put, List.setIfInBounds_toArray, List.set_cons_zero, List.set_cons_succ]
            refine wpAnyH_done (by kernel_rfl) ?_ _
            have hp := HP2.out _ HRR.out
            rw [HE2.out] at hp
            have hbf := below_four hbr hg ((u + 1) * 2) ((u + 1) * 2 + 1) (u * 2) (u * 2 + 1) (.string (str z.1)) (.string (str z.2)) (.string (str x.1)) (.string (str x.2))
            have HPP := Lib.hid hp
            clear hp hHeld y0 y1 fy0 fy1 x0 x1 fx0 fx1
            generalize (((wr.setCell ⟨g, (u + 1) * 2, none⟩ (.string (str z.1))).setCell ⟨g, (u + 1) * 2 + 1, none⟩ (.string (str z.2))).setCell ⟨g, u * 2, none⟩ (.string (str x.1))).setCell ⟨g, u * 2 + 1, none⟩ (.string (str x.2)) = wz at *
            go_wp2_with fail
            go_roundw
            case rel => exact ⟨u, by go_num, by omega, by omega, HPP.out.drew, hbf.drew⟩
            case measure => first | (simp [intOf]; done) | (simp [intOf]; omega)
          · refine ⟨by rfl, fun K hK => ?_⟩
            simp only [List.getElem?_toArray, List.getElem?_cons_zero, List.getElem?_cons_succ]
            go_simp
            refine hK.out _ _ trivial (fun hHeld => ?_)
            clear hK K
            try simp only [Act.put, List.setIfInBounds_toArray, List.set_cons_zero, List.set_cons_succ]
            refine held_c (i := 9) (by kernel_rfl) (by rfl) (fun K hK => ?_)
            simp only [List.getElem?_toArray, List.getElem?_cons_zero, List.getElem?_cons_succ]
            go_simp
            refine hK.out _ _ trivial (fun hHeld => ?_)
            clear hK K
            try simp only [Act.put, List.setIfInBounds_toArray, List.set_cons_zero, List.set_cons_succ]
            refine held_w (i := 14) (d := some 127) (v := ?_) rfl (by kernel_rfl) (by kernel_rfl) (by kernel_rfl) (fun _ _ _ h => h) (by rfl) ?_ hHeld ?_
            rotate_left
            · intro w' hSw; obtain ⟨q0⟩ := hSw; simp only [List.getElem?_toArray, List.getElem?_cons_zero, List.getElem?_cons_succ]; go_simp; try with_reducible rfl
            try simp only [Act.put, List.setIfInBounds_toArray, List.set_cons_zero, List.set_cons_succ]
            refine held_c (i := 15) (by kernel_rfl) (by rfl) (fun K hK => ?_)
            simp only [List.getElem?_toArray, List.getElem?_cons_zero, List.getElem?_cons_succ]
            go_simp
            refine hK.out _ _ trivial (fun hHeld => ?_)
            clear hK K
            try simp only [Act.put, List.setIfInBounds_toArray, List.set_cons_zero, List.set_cons_succ]
            refine held_w (i := 16) (d := some 128) (v := ?_) rfl (by kernel_rfl) (by kernel_rfl) (by kernel_rfl) (fun _ _ _ h => h) (by rfl) ?_ hHeld ?_
            rotate_left
            · intro w' hSw; obtain ⟨q0⟩ := hSw; simp only [List.getElem?_toArray, List.getElem?_cons_zero, List.getElem?_cons_succ]; go_simp; try with_reducible rfl
            try simp only [Act.put, List.setIfInBounds_toArray, List.set_cons_zero, List.set_cons_succ]
            refine held_c (i := 17) (by kernel_rfl) (by rfl) (fun K hK => ?_)
            simp only [List.getElem?_toArray, List.getElem?_cons_zero, List.getElem?_cons_succ]
            go_simp
            refine hK.out _ _ trivial (fun hHeld => ?_)
            clear hK K
            try simp only [Act.put, List.setIfInBounds_toArray, List.set_cons_zero, List.set_cons_succ]
            refine wpAnyH_done (by kernel_rfl) ?_ _
            have hp := HP2.out _ HRR.out
            rw [HE2.out] at hp
            have hbf := below_four hbr hg ((u + 1) * 2) ((u + 1) * 2 + 1) (u * 2) (u * 2 + 1) (.string (str z.1)) (.string (str z.2)) (.string (str x.1)) (.string (str x.2))
            have HPP := Lib.hid hp
            clear hp hHeld y0 y1 fy0 fy1 x0 x1 fx0 fx1
            generalize (((wr.setCell ⟨g, (u + 1) * 2, none⟩ (.string (str z.1))).setCell ⟨g, (u + 1) * 2 + 1, none⟩ (.string (str z.2))).setCell ⟨g, u * 2, none⟩ (.string (str x.1))).setCell ⟨g, u * 2 + 1, none⟩ (.string (str x.2)) = wz at *
            go_wp2_with fail
            go_roundw
            case rel => exact ⟨u, by go_num, by omega, by omega, HPP.out.drew, hbf.drew⟩
            case measure => first | (simp [intOf]; done) | (simp [intOf]; omega)
        · obtain rfl : i = k := by omega
          have HF : Hid (RowL g (P ++ (A1 ++ x :: A2) ++ S) wr) := by
            show RowL _ _ _
            have h := hrow.out
            rw [Nat.sub_self, List.take_zero, List.drop_zero] at h
            simpa using h
          clear hrow
          go_wp2_with fail
          refine bodyPost_ret (results_none rfl _ _ _) rfl ?_
          exact ⟨rfl, ⟨A1 ++ x :: A2, by simpa using HF.out, by simpa using HMF.out.1, by simpa using HMF.out.2, by have := HL.out; simp; omega⟩, hbr⟩
end Go.Proofs.YtdbifbgjbfnfmaaDoor
