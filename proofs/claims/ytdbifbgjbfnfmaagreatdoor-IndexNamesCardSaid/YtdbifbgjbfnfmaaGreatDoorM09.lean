/-
  Texts of the same seat, one behind the other (merged; each says at its head what it is).
-/
import Derived.Test.YtdbifbgjbfnfmaaGreatDoorM08
import Derived.Test.YtdbifbgjbfnfmaaGreatDoorM05
/-
  Layer 4 (label): two pieces of a row of labels change places; a row is turned.
-/
namespace Go.Proofs.YtdbifbgjbfnfmaaGreatDoor
open Go.RowKit Go.Deep
attribute [local go_sem] str_size str_append str_toList str_get str_extract
set_option linter.unusedVariables false
set_option linter.unusedSimpArgs false
/-- i places have been changed. -/
def SwAt (P X M Y S : List Lab) (i : Nat) : List Lab := P ++ (Y.take i ++ X.drop i) ++ M ++ (X.take i ++ Y.drop i) ++ S
theorem SwAt.two {P X M Y S : List Lab} {i n : Nat} (hX : X.length = n) (hY : Y.length = n) (hi : i < n) : ∃ D x E y F, SwAt P X M Y S i = D ++ x :: (E ++ y :: F) ∧ SwAt P X M Y S (i + 1) = D ++ y :: (E ++ x :: F) ∧ D.length = P.length + i ∧ D.length + 1 + E.length = P.length + n + M.length + i := by
  have h1 : X.drop i = X[i] :: X.drop (i + 1) := List.drop_eq_getElem_cons (by omega)
  have h2 : Y.drop i = Y[i] :: Y.drop (i + 1) := List.drop_eq_getElem_cons (by omega)
  have h3 : X.take (i + 1) = X.take i ++ [X[i]] := List.take_succ_eq_append_getElem (by omega)
  have h4 : Y.take (i + 1) = Y.take i ++ [Y[i]] := List.take_succ_eq_append_getElem (by omega)
  refine ⟨P ++ Y.take i, X[i], X.drop (i + 1) ++ M ++ X.take i, Y[i], Y.drop (i + 1) ++ S, ?_, ?_, ?_, ?_⟩
  · unfold SwAt; rw [h1, h2]; simp only [List.append_assoc, List.cons_append, List.nil_append]
  · unfold SwAt; rw [h3, h4]; simp only [List.append_assoc, List.cons_append, List.nil_append]
  · simp; omega
  · simp; omega
set_option maxHeartbeats 4000000 in
theorem swapRange_c (g B N cap a b n : Nat) (P X M Y S : List Lab) (w : World) (hg : B ≤ g) (ha : a = P.length) (hb : b = P.length + n + M.length) (hX : X.length = n) (hY : Y.length = n) (hN : P.length + n + M.length + n ≤ N) (hn : N ≤ 4096) (hr : RowL g (P ++ X ++ M ++ Y ++ S) w) (cf : Value) :
    Calls Tryz.prog 111 #[.slice (some ⟨g, 0, none⟩) N cap, .int .i64 (a : Int), .int .i64 (b : Int), .int .i64 (n : Int), cf] w fun e w' => e = .returned (.tuple #[]) ∧ RowL g (P ++ Y ++ M ++ X ++ S) w' ∧ Below B w w' := by
  have H0 : Hid (RowL g (SwAt P X M Y S 0) w) := by show RowL _ _ _; unfold SwAt; simpa using hr
  have H1 : Hid (SwAt P X M Y S n = P ++ Y ++ M ++ X ++ S) := by
    show _ = _
    unfold SwAt
    rw [List.take_of_length_le (by omega : Y.length ≤ n), List.take_of_length_le (by omega : X.length ≤ n), List.drop_eq_nil_of_le (by omega : Y.length ≤ n), List.drop_eq_nil_of_le (by omega : X.length ≤ n)]
    simp
  have HX := Lib.hid (And.intro hX hY)
  have HA := Lib.hid (And.intro ha hb)
  have han : a + n ≤ b := by omega
  have hbn : b + n ≤ N := by omega
  clear hr hX hY ha hb hN
  go_enter Tryz.func111, Tryz.ntmps111
  go_wp2_with fail
  go_loopw [10] (fun c wr => ∃ i : Nat, c = .int .i64 i ∧ i ≤ n ∧ RowL g (SwAt P X M Y S i) wr ∧ Below B w wr) (fun c _ => n - (intOf c).toNat)
  case atStart => exact ⟨0, rfl, by omega, H0.out, Below.refl _ _⟩
  case round =>
    obtain ⟨i, rfl, hi, hrow, hbw⟩ := hrel
    by_cases hlt : i < n
    · obtain ⟨D, x, E, y, F, e1, e2, hD, hE⟩ := SwAt.two (P := P) (M := M) (S := S) HX.out.1 HX.out.2 hlt
      rw [e1] at hrow
      obtain ⟨u, hu⟩ : ∃ u, u = a + i := ⟨_, rfl⟩
      obtain ⟨v, hv⟩ : ∃ v, v = b + i := ⟨_, rfl⟩
      have hDu : u = D.length := by have := HA.out.1; omega
      have hDv : v = D.length + 1 + E.length := by have := HA.out.2; omega
      obtain ⟨x0, x1, fx0, fx1⟩ := hrow.get (D := D) (x := x) u hDu
      obtain ⟨y0, y1, fy0, fy1⟩ := RowL.get (g := g) (D := D ++ x :: E) (x := y) (E := F) (w := wr) (by simpa using hrow) v (by simp; omega)
      have eu : (a : Int) + (i : Int) = (u : Int) := by omega
      have ev : (b : Int) + (i : Int) = (v : Int) := by omega
      have iu : (0 : Int) ≤ (u : Int) ∧ (u : Int) < (N : Int) := by omega
      have iv : (0 : Int) ≤ (v : Int) ∧ (v : Int) < (N : Int) := by omega
      have wu : IntKind.i64.wrap (u : Int) = (u : Int) := IntWalk.i64_in _ (by omega)
      have wv : IntKind.i64.wrap (v : Int) = (v : Int) := IntWalk.i64_in _ (by omega)
      have HROW := Lib.hid hrow
      have HE2 := Lib.hid e2
      have HDU := Lib.hid (And.intro hDu hDv)
      clear e1 e2 hrow hu hv hDu hDv hD hE
      go_wp2_with fail
      refine wp_region_held_drew (S := fun _ => True) (by kernel_rfl) trivial (fun hHeld => ?_)
      refine held_w (i := 0) (d := some 16) (v := ?_) rfl (by kernel_rfl) (by kernel_rfl) (by kernel_rfl) (fun _ _ _ h => h) (by rfl) ?_ hHeld ?_
      rotate_left
      · intro w' hSw; obtain ⟨q0⟩ := hSw; simp only [List.getElem?_toArray, List.getElem?_cons_zero, List.getElem?_cons_succ]; go_simp; try with_reducible rfl
      try simp only [Act.put, List.setIfInBounds_toArray, List.set_cons_zero, List.set_cons_succ]
      refine held_w (i := 1) (d := some 17) (v := ?_) rfl (by kernel_rfl) (by kernel_rfl) (by kernel_rfl) (fun _ _ _ h => h) (by rfl) ?_ hHeld ?_
      rotate_left
      · intro w' hSw; obtain ⟨q0⟩ := hSw; simp only [List.getElem?_toArray, List.getElem?_cons_zero, List.getElem?_cons_succ]; go_simp; try with_reducible rfl
      try simp only [Act.put, List.setIfInBounds_toArray, List.set_cons_zero, List.set_cons_succ]
      refine held_w (i := 2) (d := some 18) (v := ?_) rfl (by kernel_rfl) (by kernel_rfl) (by kernel_rfl) (fun _ _ _ h => h) (by rfl) ?_ hHeld ?_
      rotate_left
      · intro w' hSw; obtain ⟨q0⟩ := hSw; simp only [List.getElem?_toArray, List.getElem?_cons_zero, List.getElem?_cons_succ]; go_simp; try with_reducible rfl
      try simp only [Act.put, List.setIfInBounds_toArray, List.set_cons_zero, List.set_cons_succ]
      refine held_w (i := 3) (d := some 19) (v := ?_) rfl (by kernel_rfl) (by kernel_rfl) (by kernel_rfl) (fun _ _ _ h => h) (by rfl) ?_ hHeld ?_
      rotate_left
      · intro w' hSw; obtain ⟨q0⟩ := hSw; simp only [List.getElem?_toArray, List.getElem?_cons_zero, List.getElem?_cons_succ]; go_simp; try with_reducible rfl
      try simp only [Act.put, List.setIfInBounds_toArray, List.set_cons_zero, List.set_cons_succ]
      refine held_w (i := 4) (d := some 20) (v := ?_) rfl (by kernel_rfl) (by kernel_rfl) (by kernel_rfl) (fun _ _ _ h => h) (by rfl) ?_ hHeld ?_
      rotate_left
      · intro w' hSw; obtain ⟨q0⟩ := hSw; simp only [List.getElem?_toArray, List.getElem?_cons_zero, List.getElem?_cons_succ]; go_simp; try with_reducible rfl
      try simp only [Act.put, List.setIfInBounds_toArray, List.set_cons_zero, List.set_cons_succ]
      refine held_w (i := 5) (d := some 21) (v := ?_) rfl (by kernel_rfl) (by kernel_rfl) (by kernel_rfl) (fun _ _ _ h => h) (by rfl) ?_ hHeld ?_
      rotate_left
      · intro w' hSw; obtain ⟨q0⟩ := hSw; simp only [List.getElem?_toArray, List.getElem?_cons_zero, List.getElem?_cons_succ]; go_simp; try with_reducible rfl
      try simp only [Act.put, List.setIfInBounds_toArray, List.set_cons_zero, List.set_cons_succ]
      refine held_w (i := 6) (d := some 22) (v := ?_) rfl (by kernel_rfl) (by kernel_rfl) (by kernel_rfl) (fun _ _ _ h => h) (by rfl) ?_ hHeld ?_
      rotate_left
      · intro w' hSw; obtain ⟨q0⟩ := hSw; simp only [List.getElem?_toArray, List.getElem?_cons_zero, List.getElem?_cons_succ]; go_simp; try with_reducible rfl
      try simp only [Act.put, List.setIfInBounds_toArray, List.set_cons_zero, List.set_cons_succ]
      refine held_w (i := 7) (d := some 23) (v := ?_) rfl (by kernel_rfl) (by kernel_rfl) (by kernel_rfl) (fun _ _ _ h => h) (by rfl) ?_ hHeld ?_
      rotate_left
      · intro w' hSw; obtain ⟨q0⟩ := hSw; simp only [List.getElem?_toArray, List.getElem?_cons_zero, List.getElem?_cons_succ]; go_simp; try with_reducible rfl
      try simp only [Act.put, List.setIfInBounds_toArray, List.set_cons_zero, List.set_cons_succ]
      refine held_w (i := 8) (d := some 24) (v := ?_) rfl (by kernel_rfl) (by kernel_rfl) (by kernel_rfl) (fun _ _ _ h => h) (by rfl) ?_ hHeld ?_
      rotate_left
      · intro w' hSw; obtain ⟨q0⟩ := hSw; simp only [List.getElem?_toArray, List.getElem?_cons_zero, List.getElem?_cons_succ]; go_simp; try with_reducible rfl
      try simp only [Act.put, List.setIfInBounds_toArray, List.set_cons_zero, List.set_cons_succ]
      refine held_w (i := 9) (d := some 25) (v := ?_) rfl (by kernel_rfl) (by kernel_rfl) (by kernel_rfl) (fun _ _ _ h => h) (by rfl) ?_ hHeld ?_
      rotate_left
      · intro w' hSw; obtain ⟨q0⟩ := hSw; simp only [List.getElem?_toArray, List.getElem?_cons_zero, List.getElem?_cons_succ]; go_simp; try with_reducible rfl
      try simp only [Act.put, List.setIfInBounds_toArray, List.set_cons_zero, List.set_cons_succ]
      refine held_w (i := 10) (d := some 26) (v := ?_) rfl (by kernel_rfl) (by kernel_rfl) (by kernel_rfl) (fun _ _ _ h => h) (by rfl) ?_ hHeld ?_
      rotate_left
      · intro w' hSw; obtain ⟨q0⟩ := hSw; simp only [List.getElem?_toArray, List.getElem?_cons_zero, List.getElem?_cons_succ]; go_simp; try with_reducible rfl
      try simp only [Act.put, List.setIfInBounds_toArray, List.set_cons_zero, List.set_cons_succ]
      refine held_w (i := 11) (d := some 27) (v := ?_) rfl (by kernel_rfl) (by kernel_rfl) (by kernel_rfl) (fun _ _ _ h => h) (by rfl) ?_ hHeld ?_
      rotate_left
      · intro w' hSw; obtain ⟨q0⟩ := hSw; simp only [List.getElem?_toArray, List.getElem?_cons_zero, List.getElem?_cons_succ]; go_simp; try with_reducible rfl
      try simp only [Act.put, List.setIfInBounds_toArray, List.set_cons_zero, List.set_cons_succ]
      refine held_w (i := 12) (d := some 28) (v := ?_) rfl (by kernel_rfl) (by kernel_rfl) (by kernel_rfl) (fun _ _ _ h => h) (by rfl) ?_ hHeld ?_
      rotate_left
      · intro w' hSw; obtain ⟨q0⟩ := hSw; simp only [List.getElem?_toArray, List.getElem?_cons_zero, List.getElem?_cons_succ]; go_simp; try with_reducible rfl
      try simp only [Act.put, List.setIfInBounds_toArray, List.set_cons_zero, List.set_cons_succ]
      refine held_w (i := 14) (d := some 30) (v := ?_) rfl (by kernel_rfl) (by kernel_rfl) (by kernel_rfl) (fun _ _ _ h => h) (by rfl) ?_ hHeld ?_
      rotate_left
      · intro w' hSw; obtain ⟨q0⟩ := hSw; simp only [List.getElem?_toArray, List.getElem?_cons_zero, List.getElem?_cons_succ]; go_simp; try with_reducible rfl
      try simp only [Act.put, List.setIfInBounds_toArray, List.set_cons_zero, List.set_cons_succ]
      refine held_w (i := 15) (d := some 31) (v := ?_) rfl (by kernel_rfl) (by kernel_rfl) (by kernel_rfl) (fun _ _ _ h => h) (by rfl) ?_ hHeld ?_
      rotate_left
      · intro w' hSw; obtain ⟨q0⟩ := hSw; simp only [List.getElem?_toArray, List.getElem?_cons_zero, List.getElem?_cons_succ]; go_simp; try with_reducible rfl
      try simp only [Act.put, List.setIfInBounds_toArray, List.set_cons_zero, List.set_cons_succ]
      refine held_w (i := 16) (d := some 32) (v := ?_) rfl (by kernel_rfl) (by kernel_rfl) (by kernel_rfl) (fun _ _ _ h => h) (by rfl) ?_ hHeld ?_
      rotate_left
      · intro w' hSw; obtain ⟨q0⟩ := hSw; simp only [List.getElem?_toArray, List.getElem?_cons_zero, List.getElem?_cons_succ]; go_simp; try with_reducible rfl
      try simp only [Act.put, List.setIfInBounds_toArray, List.set_cons_zero, List.set_cons_succ]
      refine held_w (i := 17) (d := some 33) (v := ?_) rfl (by kernel_rfl) (by kernel_rfl) (by kernel_rfl) (fun _ _ _ h => h) (by rfl) ?_ hHeld ?_
      rotate_left
      · intro w' hSw; obtain ⟨q0⟩ := hSw; simp only [List.getElem?_toArray, List.getElem?_cons_zero, List.getElem?_cons_succ]; go_simp; try with_reducible rfl
      try simp only [Act.put, List.setIfInBounds_toArray, List.set_cons_zero, List.set_cons_succ]
      refine held_w (i := 18) (d := some 34) (v := ?_) rfl (by kernel_rfl) (by kernel_rfl) (by kernel_rfl) (fun _ _ _ h => h) (by rfl) ?_ hHeld ?_
      rotate_left
      · intro w' hSw; obtain ⟨q0⟩ := hSw; simp only [List.getElem?_toArray, List.getElem?_cons_zero, List.getElem?_cons_succ]; go_simp; try with_reducible rfl
      try simp only [Act.put, List.setIfInBounds_toArray, List.set_cons_zero, List.set_cons_succ]
      refine held_many (rs := [13, 19]) (by kernel_rfl) (by simp) ⟨?_, ?_, trivial⟩
      · refine ⟨by rfl, fun K hK => ?_⟩
        simp only [List.getElem?_toArray, List.getElem?_cons_zero, List.getElem?_cons_succ]
        go_simp
        refine hK.out _ _ trivial (fun hHeld => ?_)
        clear hK K
        try simp only [Act.put, List.setIfInBounds_toArray, List.set_cons_zero, List.set_cons_succ]
        refine held_c (i := 19) (by kernel_rfl) (by rfl) (fun K hK => ?_)
        simp only [List.getElem?_toArray, List.getElem?_cons_zero, List.getElem?_cons_succ]
        go_simp
        refine hK.out _ _ trivial (fun hHeld => ?_)
        clear hK K
        try simp only [Act.put, List.setIfInBounds_toArray, List.set_cons_zero, List.set_cons_succ]
        refine held_w (i := 20) (d := some 36) (v := ?_) rfl (by kernel_rfl) (by kernel_rfl) (by kernel_rfl) (fun _ _ _ h => h) (by rfl) ?_ hHeld ?_
        rotate_left
        · intro w' hSw; obtain ⟨q0⟩ := hSw; simp only [List.getElem?_toArray, List.getElem?_cons_zero, List.getElem?_cons_succ]; go_simp; try with_reducible rfl
        try simp only [Act.put, List.setIfInBounds_toArray, List.set_cons_zero, List.set_cons_succ]
        refine held_c (i := 21) (by kernel_rfl) (by rfl) (fun K hK => ?_)
        simp only [List.getElem?_toArray, List.getElem?_cons_zero, List.getElem?_cons_succ]
        go_simp
        refine hK.out _ _ trivial (fun hHeld => ?_)
        clear hK K
        try simp only [Act.put, List.setIfInBounds_toArray, List.set_cons_zero, List.set_cons_succ]
        refine held_w (i := 22) (d := some 37) (v := ?_) rfl (by kernel_rfl) (by kernel_rfl) (by kernel_rfl) (fun _ _ _ h => h) (by rfl) ?_ hHeld ?_
        rotate_left
        · intro w' hSw; obtain ⟨q0⟩ := hSw; simp only [List.getElem?_toArray, List.getElem?_cons_zero, List.getElem?_cons_succ]; go_simp; try with_reducible rfl
        try simp only [Act.put, List.setIfInBounds_toArray, List.set_cons_zero, List.set_cons_succ]
        refine held_c (i := 23) (by kernel_rfl) (by rfl) (fun K hK => ?_)
        simp only [List.getElem?_toArray, List.getElem?_cons_zero, List.getElem?_cons_succ]
        go_simp
        refine hK.out _ _ trivial (fun hHeld => ?_)
        clear hK K
        try simp only [Act.put, List.setIfInBounds_toArray, List.set_cons_zero, List.set_cons_succ]
        refine wpAnyH_done (by kernel_rfl) ?_ _
        have hp1 := RowL.put (g := g) (D := D) (x := x) (E := E ++ y :: F) (w := wr) HROW.out y u HDU.out.1
        have hp2 := RowL.put (g := g) (D := D ++ y :: E) (x := y) (E := F) (by simpa using hp1) x v (by have := HDU.out.2; simp; omega)
        have hbf : Below B w ((((wr.setCell ⟨g, u * 2, none⟩ (.string (str y.1))).setCell ⟨g, u * 2 + 1, none⟩ (.string (str y.2))).setCell ⟨g, v * 2, none⟩ (.string (str x.1))).setCell ⟨g, v * 2 + 1, none⟩ (.string (str x.2))) := (((hbw.setCell (p := ⟨g, u * 2, none⟩) hg _).setCell (p := ⟨g, u * 2 + 1, none⟩) hg _).setCell (p := ⟨g, v * 2, none⟩) hg _).setCell (p := ⟨g, v * 2 + 1, none⟩) hg _
        have e3 : D ++ y :: E ++ x :: F = SwAt P X M Y S (i + 1) := by rw [HE2.out]; simp
        rw [e3] at hp2
        have HP2 := Lib.hid hp2
        clear hp1 hp2 e3 hHeld y0 y1 fy0 fy1 x0 x1 fx0 fx1
        generalize (((wr.setCell ⟨g, u * 2, none⟩ (.string (str y.1))).setCell ⟨g, u * 2 + 1, none⟩ (.string (str y.2))).setCell ⟨g, v * 2, none⟩ (.string (str x.1))).setCell ⟨g, v * 2 + 1, none⟩ (.string (str x.2)) = wz at *
        go_wp2_with fail
        go_roundw
        case rel => exact ⟨i + 1, by go_num, by omega, HP2.out.drew, hbf.drew⟩
        case measure => simp [intOf]; omega
      · refine ⟨by rfl, fun K hK => ?_⟩
        simp only [List.getElem?_toArray, List.getElem?_cons_zero, List.getElem?_cons_succ]
        go_simp
        refine hK.out _ _ trivial (fun hHeld => ?_)
        clear hK K
        try simp only [Act.put, List.setIfInBounds_toArray, List.set_cons_zero, List.set_cons_succ]
        refine held_c (i := 13) (by kernel_rfl) (by rfl) (fun K hK => ?_)
        simp only [List.getElem?_toArray, List.getElem?_cons_zero, List.getElem?_cons_succ]
        go_simp
        refine hK.out _ _ trivial (fun hHeld => ?_)
        clear hK K
        try simp only [Act.put, List.setIfInBounds_toArray, List.set_cons_zero, List.set_cons_succ]
        refine held_w (i := 20) (d := some 36) (v := ?_) rfl (by kernel_rfl) (by kernel_rfl) (by kernel_rfl) (fun _ _ _ h => h) (by rfl) ?_ hHeld ?_
        rotate_left
        · intro w' hSw; obtain ⟨q0⟩ := hSw; simp only [List.getElem?_toArray, List.getElem?_cons_zero, List.getElem?_cons_succ]; go_simp; try with_reducible rfl
        try simp only [Act.put, List.setIfInBounds_toArray, List.set_cons_zero, List.set_cons_succ]
        refine held_c (i := 21) (by kernel_rfl) (by rfl) (fun K hK => ?_)
        simp only [List.getElem?_toArray, List.getElem?_cons_zero, List.getElem?_cons_succ]
        go_simp
        refine hK.out _ _ trivial (fun hHeld => ?_)
        clear hK K
        try simp only [Act.put, List.setIfInBounds_toArray, List.set_cons_zero, List.set_cons_succ]
        refine held_w (i := 22) (d := some 37) (v := ?_) rfl (by kernel_rfl) (by kernel_rfl) (by kernel_rfl) (fun _ _ _ h => h) (by rfl) ?_ hHeld ?_
        rotate_left
        · intro w' hSw; obtain ⟨q0⟩ := hSw; simp only [List.getElem?_toArray, List.getElem?_cons_zero, List.getElem?_cons_succ]; go_simp; try with_reducible rfl
        try simp only [Act.put, List.setIfInBounds_toArray, List.set_cons_zero, List.set_cons_succ]
        refine held_c (i := 23) (by kernel_rfl) (by rfl) (fun K hK => ?_)
        simp only [List.getElem?_toArray, List.getElem?_cons_zero, List.getElem?_cons_succ]
        go_simp
        refine hK.out _ _ trivial (fun hHeld => ?_)
        clear hK K
        try simp only [Act.put, List.setIfInBounds_toArray, List.set_cons_zero, List.set_cons_succ]
        refine wpAnyH_done (by kernel_rfl) ?_ _
        have hp1 := RowL.put (g := g) (D := D) (x := x) (E := E ++ y :: F) (w := wr) HROW.out y u HDU.out.1
        have hp2 := RowL.put (g := g) (D := D ++ y :: E) (x := y) (E := F) (by simpa using hp1) x v (by have := HDU.out.2; simp; omega)
        have hbf : Below B w ((((wr.setCell ⟨g, u * 2, none⟩ (.string (str y.1))).setCell ⟨g, u * 2 + 1, none⟩ (.string (str y.2))).setCell ⟨g, v * 2, none⟩ (.string (str x.1))).setCell ⟨g, v * 2 + 1, none⟩ (.string (str x.2))) := (((hbw.setCell (p := ⟨g, u * 2, none⟩) hg _).setCell (p := ⟨g, u * 2 + 1, none⟩) hg _).setCell (p := ⟨g, v * 2, none⟩) hg _).setCell (p := ⟨g, v * 2 + 1, none⟩) hg _
        have e3 : D ++ y :: E ++ x :: F = SwAt P X M Y S (i + 1) := by rw [HE2.out]; simp
        rw [e3] at hp2
        have HP2 := Lib.hid hp2
        clear hp1 hp2 e3 hHeld y0 y1 fy0 fy1 x0 x1 fx0 fx1
        generalize (((wr.setCell ⟨g, u * 2, none⟩ (.string (str y.1))).setCell ⟨g, u * 2 + 1, none⟩ (.string (str y.2))).setCell ⟨g, v * 2, none⟩ (.string (str x.1))).setCell ⟨g, v * 2 + 1, none⟩ (.string (str x.2)) = wz at *
        go_wp2_with fail
        go_roundw
        case rel => exact ⟨i + 1, by go_num, by omega, HP2.out.drew, hbf.drew⟩
        case measure => simp [intOf]; omega
    · obtain rfl : i = n := by omega
      have HROW := Lib.hid hrow
      go_wp2_with fail
      go_end0
      refine ⟨rfl, ?_, hbw⟩
      rw [← H1.out]; exact HROW.out
set_option maxHeartbeats 2000000 in
theorem rotate_c (g B N cap a m b : Nat) (P U V S : List Lab) (w : World) (hg : B ≤ g) (hB : B ≤ w.heap.size) (ha : a = P.length) (hm : m = P.length + U.length) (hb : b = P.length + U.length + V.length) (hU : 1 ≤ U.length) (hV : 1 ≤ V.length) (hN : b ≤ N) (hn : N ≤ 4096) (hr : RowL g (P ++ U ++ V ++ S) w) (cf : Value) :
    Calls Tryz.prog 110 #[.slice (some ⟨g, 0, none⟩) N cap, .int .i64 (a : Int), .int .i64 (m : Int), .int .i64 (b : Int), cf] w fun e w' => e = .returned (.tuple #[]) ∧ RowL g (P ++ V ++ U ++ S) w' ∧ Below B w w' := by
  obtain ⟨T, hT⟩ : ∃ T, P ++ V ++ U ++ S = T := ⟨_, rfl⟩
  rw [hT]
  have e1 : (m : Int) - (a : Int) = ((U.length : Nat) : Int) := by omega
  have e2 : (b : Int) - (m : Int) = ((V.length : Nat) : Int) := by omega
  have H0 : Hid (∃ P' X Y S', U.length = X.length ∧ V.length = Y.length ∧ 1 ≤ X.length ∧ 1 ≤ Y.length ∧ P'.length + X.length = m ∧ m + Y.length ≤ N ∧ P' ++ Y ++ X ++ S' = T ∧ RowL g (P' ++ X ++ Y ++ S') w) := ⟨P, U, V, S, rfl, rfl, hU, hV, by omega, by omega, hT, hr⟩
  have hUl : U.length ≤ N := by omega
  have hVl : V.length ≤ N := by omega
  have hmN : m ≤ N := by omega
  clear hr hT ha hb hm
  obtain ⟨ul, hul⟩ : ∃ ul, U.length = ul := ⟨_, rfl⟩
  obtain ⟨vl, hvl⟩ : ∃ vl, V.length = vl := ⟨_, rfl⟩
  rw [hul] at e1 H0 hUl hU
  rw [hvl] at e2 H0 hVl hV
  clear hul hvl
  go_enter Tryz.func110, Tryz.ntmps110
  go_wp2_with fail
  go_loopw [10, 11] (fun c d wr => ∃ i j : Nat, c = .int .i64 i ∧ d = .int .i64 j ∧ i ≤ N ∧ j ≤ N ∧ Hid (∃ P' X Y S', i = X.length ∧ j = Y.length ∧ 1 ≤ X.length ∧ 1 ≤ Y.length ∧ P'.length + X.length = m ∧ m + Y.length ≤ N ∧ P' ++ Y ++ X ++ S' = T ∧ RowL g (P' ++ X ++ Y ++ S') wr) ∧ Below B w wr) (fun c d _ => (intOf c).toNat + (intOf d).toNat)
  case atStart => exact ⟨ul, vl, rfl, rfl, hUl, hVl, H0.out, Below.refl _ _⟩
  case round =>
    obtain ⟨i, j, rfl, rfl, hi, hj, HI, hbw⟩ := hrel
    obtain ⟨P', X, Y, S', hX, hY, hX1, hY1, hPm, hmY, hTT, hrow⟩ := HI.out
    have hsz := hbw.size
    have HT := Lib.hid hTT
    have hi1 : 1 ≤ i := by omega
    have hj1 : 1 ≤ j := by omega
    have him : i ≤ m := by omega
    have hmj : m + j ≤ N := by omega
    have HXY := Lib.hid (And.intro hX (And.intro hY hPm))
    clear hTT e1 e2 HI
    by_cases hij : i = j
    · subst hij
      have ne : ((i : Int) != (i : Int)) = false := by simp
      obtain ⟨q, hq⟩ : ∃ q, q = m - i := ⟨_, rfl⟩
      have eq1 : (m : Int) - (i : Int) = (q : Int) := by omega
      have sw := fun cf => swapRange_c g B N cap q m i P' X [] Y S' wr hg (by omega) (by simp; omega) hX.symm hY.symm (by simp; omega) hn (by simpa using hrow) cf
      clear hX hY hX1 hY1 hPm hmY hrow hq
      go_wp2_with (go_at_call 111; refine (sw _).mono ?_; rintro e w2 ⟨rfl, hr2, hb2⟩)
      go_end0
      refine ⟨rfl, ?_, hbw.trans hb2⟩
      rw [← HT.out]; simpa using hr2
    · have ne : ((i : Int) != (j : Int)) = true := by simp; omega
      by_cases hgt : j < i
      · have hgt' : (j : Int) < (i : Int) := by omega
        obtain ⟨q, hq⟩ : ∃ q, q = m - i := ⟨_, rfl⟩
        have eq1 : (m : Int) - (i : Int) = (q : Int) := by omega
        obtain ⟨d, hd⟩ : ∃ d, d = i - j := ⟨_, rfl⟩
        have ed : (i : Int) - (j : Int) = (d : Int) := by omega
        have hXs : X = X.take j ++ X.drop j := (List.take_append_drop j X).symm
        have hTT2 : P' ++ Y ++ (X.take j ++ X.drop j) ++ S' = T := by rw [List.take_append_drop]; exact HT.out
        have l1 : (X.take j).length = j := by rw [List.length_take]; omega
        have l2 : (X.drop j).length = d := by rw [List.length_drop]; omega
        have sw := fun cf => swapRange_c g B N cap q m j P' (X.take j) (X.drop j) Y S' wr hg (by omega) (by rw [l2]; omega) l1 hY.symm (by rw [l2]; omega) hn (by rw [hXs] at hrow; simpa using hrow) cf
        have HN : Hid (∀ W, RowL g (P' ++ Y ++ X.drop j ++ X.take j ++ S') W → ∃ P' X Y S', d = X.length ∧ j = Y.length ∧ 1 ≤ X.length ∧ 1 ≤ Y.length ∧ P'.length + X.length = m ∧ m + Y.length ≤ N ∧ P' ++ Y ++ X ++ S' = T ∧ RowL g (P' ++ X ++ Y ++ S') W) := fun W hW => ⟨P' ++ Y, X.drop j, X.take j, S', l2.symm, l1.symm, by omega, by omega, by simp; omega, by omega, by rw [← hTT2]; simp, hW⟩
        clear hX hY hX1 hY1 hPm hmY hrow hq hd hXs l1 l2 hTT2
        go_wp2_with (go_at_call 111; refine (sw _).mono ?_; rintro e w2 ⟨rfl, hr2, hb2⟩)
        go_roundw
        case rel => exact ⟨d, j, rfl, rfl, by omega, hj, HN.out _ hr2, hbw.trans hb2⟩
        case measure => simp [intOf]; omega
      · have hgt' : ¬ (j : Int) < (i : Int) := by omega
        obtain ⟨q, hq⟩ : ∃ q, q = m - i := ⟨_, rfl⟩
        have eq1 : (m : Int) - (i : Int) = (q : Int) := by omega
        obtain ⟨d, hd⟩ : ∃ d, d = j - i := ⟨_, rfl⟩
        have ed : (j : Int) - (i : Int) = (d : Int) := by omega
        obtain ⟨r, hr'⟩ : ∃ r, r = m + j - i := ⟨_, rfl⟩
        have er : (m : Int) + (j : Int) - (i : Int) = (r : Int) := by omega
        have hYs : Y = Y.take d ++ Y.drop d := (List.take_append_drop d Y).symm
        have hTT2 : P' ++ (Y.take d ++ Y.drop d) ++ X ++ S' = T := by rw [List.take_append_drop]; exact HT.out
        have l1 : (Y.take d).length = d := by rw [List.length_take]; omega
        have l2 : (Y.drop d).length = i := by rw [List.length_drop]; omega
        have sw := fun cf => swapRange_c g B N cap q r i P' X (Y.take d) (Y.drop d) S' wr hg (by omega) (by rw [l1]; omega) hX.symm l2 (by rw [l1]; omega) hn (by rw [hYs] at hrow; simpa using hrow) cf
        have HN : Hid (∀ W, RowL g (P' ++ Y.drop d ++ Y.take d ++ X ++ S') W → ∃ P' X Y S', i = X.length ∧ d = Y.length ∧ 1 ≤ X.length ∧ 1 ≤ Y.length ∧ P'.length + X.length = m ∧ m + Y.length ≤ N ∧ P' ++ Y ++ X ++ S' = T ∧ RowL g (P' ++ X ++ Y ++ S') W) := fun W hW => ⟨P', Y.drop d, Y.take d, X ++ S', l2.symm, l1.symm, by omega, by omega, by omega, by omega, by rw [← hTT2]; simp, by simpa using hW⟩
        clear hX hY hX1 hY1 hPm hmY hrow hq hd hYs l1 l2 hr' hTT2
        go_wp2_with (go_at_call 111; refine (sw _).mono ?_; rintro e w2 ⟨rfl, hr2, hb2⟩)
        go_roundw
        case rel => exact ⟨i, d, rfl, rfl, hi, by omega, HN.out _ hr2, hbw.trans hb2⟩
        case measure => simp [intOf]; omega
end Go.Proofs.YtdbifbgjbfnfmaaGreatDoor
/-
  Layer 4 (label): two runs of labels become one, plain. No program is named.
-/
namespace Go.Proofs.YtdbifbgjbfnfmaaGreatDoor
open Go.RowKit Go.Deep
set_option linter.unusedVariables false

/-- The label at place i. -/
def atN (l : List Lab) (i : Nat) : Lab := l.getD i ([], [])
theorem atN_get {l : List Lab} {i : Nat} (h : i < l.length) : atN l i = l[i] := by simp [atN, List.getD, h]
theorem atN_left {A B : List Lab} {i : Nat} (h : i < A.length) : atN (A ++ B) i = atN A i := by simp [atN, List.getD, List.getElem?_append_left h]
theorem atN_right {A B : List Lab} {i : Nat} (h : A.length ≤ i) : atN (A ++ B) i = atN B (i - A.length) := by simp [atN, List.getD, List.getElem?_append_right h]
theorem sorted_at {A : List Lab} (h : SortedN A) {i j : Nat} (hij : i ≤ j) (hj : j < A.length) : ltN (atN A j) (atN A i) = false := by
  rw [atN_get hj, atN_get (by omega)]
  by_cases he : i = j
  · subst he; exact ltN_irrefl _
  · exact List.pairwise_iff_getElem.1 h i j (by omega) hj (by omega)
theorem mem_take_at {A : List Lab} {k : Nat} {x : Lab} (h : x ∈ A.take k) : ∃ i, i < k ∧ i < A.length ∧ atN A i = x := by
  obtain ⟨i, hi, e⟩ := List.getElem_of_mem h
  rw [List.length_take] at hi
  rw [List.getElem_take] at e
  exact ⟨i, by omega, by omega, by rw [atN_get (by omega)]; exact e⟩
theorem mem_drop_at {A : List Lab} {k : Nat} {x : Lab} (h : x ∈ A.drop k) : ∃ i, k ≤ i ∧ i < A.length ∧ atN A i = x := by
  obtain ⟨i, hi, e⟩ := List.getElem_of_mem h
  rw [List.length_drop] at hi
  rw [List.getElem_drop] at e
  exact ⟨k + i, by omega, by omega, by rw [atN_get (by omega)]; exact e⟩
/-- Two halves, each in order, make the whole. -/
theorem merge_end {A C D1 D2 : List Lab} {s t : Nat} (hA : SortedN A) (hC : SortedN C) (h1 : s < A.length → 1 ≤ t → ltN (atN C (t - 1)) (atN A s) = true) (h2 : 1 ≤ s → t < C.length → ltN (atN C t) (atN A (s - 1)) = false) (hs : s ≤ A.length) (ht : t ≤ C.length)
    (d1 : SortedN D1) (e1 : Stb D1 (A.take s ++ C.take t)) (d2 : SortedN D2) (e2 : Stb D2 (A.drop s ++ C.drop t)) : SortedN (D1 ++ D2) ∧ Stb (D1 ++ D2) (A ++ C) := by
  have hvu : ∀ v ∈ C.take t, ∀ u ∈ A.drop s, ltN v u = true := by
    intro v hv u hu
    obtain ⟨i, hi, hi2, rfl⟩ := mem_take_at hv
    obtain ⟨j, hj, hj2, rfl⟩ := mem_drop_at hu
    have k1 := h1 (by omega) (by omega)
    have k2 := sorted_at hC (show i ≤ t - 1 by omega) (by omega)
    have k3 := sorted_at hA hj hj2
    exact leN_lt k2 (ltN_le k1 k3)
  constructor
  · refine List.pairwise_append.2 ⟨d1, d2, fun x hx y hy => ?_⟩
    have hx := e1.mem hx
    have hy := e2.mem hy
    rcases List.mem_append.1 hx with hx | hx
    · obtain ⟨i, hi, hi2, rfl⟩ := mem_take_at hx
      rcases List.mem_append.1 hy with hy | hy
      · obtain ⟨j, hj, hj2, rfl⟩ := mem_drop_at hy
        exact sorted_at hA (by omega) hj2
      · obtain ⟨j, hj, hj2, rfl⟩ := mem_drop_at hy
        have k1 := h2 (by omega) (by omega)
        have k2 := sorted_at hA (show i ≤ s - 1 by omega) (by omega)
        have k3 := sorted_at hC hj hj2
        exact leN_trans k2 (leN_trans k1 k3)
    · rcases List.mem_append.1 hy with hy | hy
      · exact ltN_asymm (hvu x hx y hy)
      · obtain ⟨i, hi, hi2, rfl⟩ := mem_take_at hx
        obtain ⟨j, hj, hj2, rfl⟩ := mem_drop_at hy
        exact sorted_at hC (by omega) hj2
  · have k := e1.append e2
    refine k.trans ?_
    have hsw : Stb (C.take t ++ A.drop s) (A.drop s ++ C.take t) := Stb.swap (fun x hx y hy => ltN_ne (hvu x hx y hy))
    have := Stb.append (Stb.append (Stb.refl (A.take s)) hsw) (Stb.refl (C.drop t))
    have e3 : A.take s ++ C.take t ++ (A.drop s ++ C.drop t) = A.take s ++ (C.take t ++ A.drop s) ++ C.drop t := by simp
    have e4 : A ++ C = A.take s ++ (A.drop s ++ C.take t) ++ C.drop t := by
      rw [← List.append_assoc (A.take s), List.take_append_drop, List.append_assoc, List.take_append_drop]
    rw [e3, e4]
    exact this
theorem sorted_take {A : List Lab} (h : SortedN A) (k : Nat) : SortedN (A.take k) := List.Pairwise.sublist (List.take_sublist k A) h
theorem sorted_drop {A : List Lab} (h : SortedN A) (k : Nat) : SortedN (A.drop k) := List.Pairwise.sublist (List.drop_sublist k A) h
theorem sorted_cons_drop {C : List Lab} {x : Lab} {k : Nat} (h : SortedN C) (hx : k < C.length → ltN (atN C k) x = false) : SortedN (x :: C.drop k) := by
  refine List.pairwise_cons.2 ⟨fun z hz => ?_, sorted_drop h k⟩
  obtain ⟨i, hi, hi2, rfl⟩ := mem_drop_at hz
  exact leN_trans (hx (by omega)) (sorted_at h hi hi2)
theorem sorted_take_snoc {A : List Lab} {x : Lab} {k : Nat} (h : SortedN A) (hk : k ≤ A.length) (hx : 1 ≤ k → ltN x (atN A (k - 1)) = false) : SortedN (A.take k ++ [x]) := by
  refine List.pairwise_append.2 ⟨sorted_take h k, by simp, fun y hy z hz => ?_⟩
  simp at hz; subst hz
  obtain ⟨i, hi, hi2, rfl⟩ := mem_take_at hy
  exact leN_trans (sorted_at h (show i ≤ k - 1 by omega) (by omega)) (hx (by omega))
/-- One label and a run. -/
theorem merge_first {C : List Lab} {x : Lab} {k : Nat} (hC : SortedN C) (hk : k ≤ C.length) (h1 : 1 ≤ k → ltN (atN C (k - 1)) x = true) (h2 : k < C.length → ltN (atN C k) x = false) : SortedN (C.take k ++ x :: C.drop k) ∧ Stb (C.take k ++ x :: C.drop k) ([x] ++ C) :=
  merge_end (A := [x]) (C := C) (s := 0) (t := k) (by simp [SortedN]) hC (fun _ h => h1 h) (fun h => by omega) (by simp) hk (sorted_take hC k) (by simpa using Stb.refl _) (sorted_cons_drop hC h2) (by simpa using Stb.refl _)
/-- A run and one label. -/
theorem merge_last {A : List Lab} {x : Lab} {k : Nat} (hA : SortedN A) (hk : k ≤ A.length) (h1 : 1 ≤ k → ltN x (atN A (k - 1)) = false) (h2 : k < A.length → ltN x (atN A k) = true) : SortedN (A.take k ++ x :: A.drop k) ∧ Stb (A.take k ++ x :: A.drop k) (A ++ [x]) := by
  have := merge_end (A := A) (C := [x]) (s := k) (t := 1) (D1 := A.take k ++ [x]) (D2 := A.drop k) hA (by simp [SortedN]) (fun h _ => h2 h) (fun _ h => by simp at h) hk (by simp) (sorted_take_snoc hA hk h1) (by simpa using Stb.refl _) (sorted_drop hA k) (by simpa using Stb.refl _)
  simpa using this
end Go.Proofs.YtdbifbgjbfnfmaaGreatDoor
/-
  Layer 4 (label): two runs in a row of labels become one: where one of them is a single label.
-/
namespace Go.Proofs.YtdbifbgjbfnfmaaGreatDoor
open Go.RowKit Go.Deep
attribute [local go_sem] str_size str_append str_toList str_get str_extract
set_option linter.unusedVariables false
set_option linter.unusedSimpArgs false
theorem RowL.gat {g : Nat} {l : List Lab} {w : World} (h : RowL g l w) {i : Nat} (hi : i < l.length) (x : Lab) (hx : atN l i = x) :
    w.cell? ⟨g, i * 2, none⟩ = some (.string (str x.1)) ∧ w.cell? ⟨g, i * 2 + 1, none⟩ = some (.string (str x.2)) := by
  rw [atN_get hi] at hx
  subst hx
  obtain ⟨cur, h1, h2, h3⟩ := h
  have := h3 i hi
  refine ⟨?_, ?_⟩
  · rw [blk_cell h1, Nat.mul_comm]; exact this.1
  · rw [blk_cell h1, Nat.mul_comm]; exact this.2
theorem half_eq (i j h : Nat) (hh : h = (i + j) / 2) : ((i : Int) + (j : Int)) / 2 = (h : Int) := by omega
theorem put_two {g : Nat} {D E : List Lab} {x y : Lab} {w : World} (h : RowL g (D ++ y :: x :: E) w) (k : Nat) (hk : k = D.length) :
    RowL g (D ++ x :: y :: E) ((((w.setCell ⟨g, (k + 1) * 2, none⟩ (.string (str y.1))).setCell ⟨g, (k + 1) * 2 + 1, none⟩ (.string (str y.2))).setCell ⟨g, k * 2, none⟩ (.string (str x.1))).setCell ⟨g, k * 2 + 1, none⟩ (.string (str x.2))) := by
  have hp1 := RowL.put (g := g) (D := D ++ [y]) (x := x) (E := E) (w := w) (by simpa using h) y (k + 1) (by simp; omega)
  exact RowL.put (g := g) (D := D) (x := y) (E := y :: E) (by simpa using hp1) x k hk
theorem put_two' {g : Nat} {D E : List Lab} {x y : Lab} {w : World} (h : RowL g (D ++ y :: x :: E) w) (k : Nat) (hk : k = D.length) :
    RowL g (D ++ x :: y :: E) ((((w.setCell ⟨g, k * 2, none⟩ (.string (str x.1))).setCell ⟨g, k * 2 + 1, none⟩ (.string (str x.2))).setCell ⟨g, (k + 1) * 2, none⟩ (.string (str y.1))).setCell ⟨g, (k + 1) * 2 + 1, none⟩ (.string (str y.2))) := by
  have hp1 := RowL.put (g := g) (D := D) (x := y) (E := x :: E) (w := w) h x k hk
  have hp2 := RowL.put (g := g) (D := D ++ [x]) (x := x) (E := E) (by simpa using hp1) y (k + 1) (by simp; omega)
  simpa using hp2
theorem below_four {B g : Nat} {w w' : World} (h : Below B w w') (hg : B ≤ g) (a b c d : Nat) (v1 v2 v3 v4 : Value) : Below B w ((((w'.setCell ⟨g, a, none⟩ v1).setCell ⟨g, b, none⟩ v2).setCell ⟨g, c, none⟩ v3).setCell ⟨g, d, none⟩ v4) :=
  (((h.setCell (p := ⟨g, a, none⟩) hg _).setCell (p := ⟨g, b, none⟩) hg _).setCell (p := ⟨g, c, none⟩) hg _).setCell (p := ⟨g, d, none⟩) hg _
set_option maxHeartbeats 4000000 in
set_option maxRecDepth 100000 in
theorem symm_one (g B N cap a m b : Nat) (P C S : List Lab) (x : Lab) (w : World) (hg : B ≤ g) (hB : B ≤ w.heap.size) (ha : a = P.length) (hm : m = a + 1) (hb : b = m + C.length) (hC1 : 1 ≤ C.length) (hC : SortedN C) (hN : b ≤ N) (hn : N ≤ 4096) (hr : RowL g (P ++ x :: (C ++ S)) w) :
    Calls Tryz.prog 106 #[.slice (some ⟨g, 0, none⟩) N cap, .int .i64 (a : Int), .int .i64 (m : Int), .int .i64 (b : Int), .func (.func 70) #[] #[]] w fun e w' => e = .returned (.tuple #[]) ∧ (∃ D, RowL g (P ++ D ++ S) w' ∧ SortedN D ∧ Stb D ([x] ++ C) ∧ D.length = C.length + 1) ∧ Below B w w' := by
  have HA := Lib.hid (And.intro ha (And.intro hm hb))
  have em1 : (m : Int) - (a : Int) = 1 := by omega
  have hmb : m ≤ b := by omega
  have ham : a < m := by omega
  have hma : m ≤ a + 1 := by omega
  have HR0 := Lib.hid hr
  clear hr ha hm hb
  go_enter Tryz.func106, Tryz.ntmps106
  go_wp2_with fail
  go_loopw [10, 11] (fun c d wr => ∃ i j : Nat, c = .int .i64 i ∧ d = .int .i64 j ∧ m ≤ i ∧ i ≤ j ∧ j ≤ b ∧ RowL g (P ++ x :: (C ++ S)) wr ∧ Hid ((m < i → ltN (atN C (i - 1 - m)) x = true) ∧ (j < b → ltN (atN C (j - m)) x = false)) ∧ Below B w wr) (fun c d _ => (intOf d).toNat - (intOf c).toNat)
  case atStart => exact ⟨m, b, rfl, rfl, by omega, by omega, by omega, HR0.out, ⟨fun h => by omega, fun h => by omega⟩, Below.refl _ _⟩
  case round =>
    obtain ⟨i, j, rfl, rfl, hmi, hij, hjb, hrow, HI, hbw⟩ := hrel
    by_cases hlt : i < j
    · obtain ⟨h, hh⟩ : ∃ h, h = (i + j) / 2 := ⟨_, rfl⟩
      have eh := half_eq i j h hh
      have hih : i ≤ h := by omega
      have hhj : h < j := by omega
      obtain ⟨y, hy⟩ : ∃ y, atN C (h - m) = y := ⟨_, rfl⟩
      have hyl : atN (P ++ x :: (C ++ S)) h = y := by
        have h1 := HA.out
        rw [atN_right (by omega), show x :: (C ++ S) = [x] ++ (C ++ S) from rfl, atN_right (by simp; omega), atN_left (by simp; omega), ← hy]
        congr 1
        simp; omega
      have hxl : atN (P ++ x :: (C ++ S)) a = x := by
        have h1 := HA.out
        rw [atN_right (by omega), show x :: (C ++ S) = [x] ++ (C ++ S) from rfl, atN_left (by simp; omega), h1.1, Nat.sub_self]; rfl
      have hll : (P ++ x :: (C ++ S)).length = a + 1 + C.length + S.length := by have h1 := HA.out; simp; omega
      have hS : ∀ W, Below wr.heap.size wr W → W.cell? ⟨g, h * 2, none⟩ = some (.string (str y.1)) ∧ W.cell? ⟨g, h * 2 + 1, none⟩ = some (.string (str y.2)) ∧ W.cell? ⟨g, a * 2, none⟩ = some (.string (str x.1)) ∧ W.cell? ⟨g, a * 2 + 1, none⟩ = some (.string (str x.2)) ∧ Below wr.heap.size wr W := by
        intro W hW
        have hrW := hrow.below hW
        have h1 := HA.out
        obtain ⟨y0, y1⟩ := hrW.gat (i := h) (by rw [hll]; omega) y hyl
        obtain ⟨x0, x1⟩ := hrW.gat (i := a) (by rw [hll]; omega) x hxl
        exact ⟨y0, y1, x0, x1, hW⟩
      have HS := Lib.hid hS
      have cc := fun W => cmp_c y x W
      obtain ⟨c, hc⟩ : ∃ c, cmpN y x = c := ⟨_, rfl⟩
      rw [hc] at cc
      have HC := Lib.hid hc
      have HY := Lib.hid hy
      have HROW := Lib.hid hrow
      have ih : (0 : Int) ≤ (h : Int) ∧ (h : Int) < (N : Int) := by omega
      have ia : (0 : Int) ≤ (a : Int) ∧ (a : Int) < (N : Int) := by omega
      clear hS hc hrow hyl hxl hll hh hy
      go_wp2_with fail
      refine wp_region_held_drew (S := fun W => W.cell? ⟨g, h * 2, none⟩ = some (.string (str y.1)) ∧ W.cell? ⟨g, h * 2 + 1, none⟩ = some (.string (str y.2)) ∧ W.cell? ⟨g, a * 2, none⟩ = some (.string (str x.1)) ∧ W.cell? ⟨g, a * 2 + 1, none⟩ = some (.string (str x.2)) ∧ Below wr.heap.size wr W) (by kernel_rfl) (HS.out _ ((Below.refl _ _).drew)) (fun hHeld => ?_)
      refine held_w (i := 0) (d := some 40) (v := ?_) rfl (by kernel_rfl) (by kernel_rfl) (by kernel_rfl) (fun _ _ _ h => h) (by rfl) ?_ hHeld ?_
      rotate_left
      · intro w' hSw; obtain ⟨q0, q1, q2, q3, q4⟩ := hSw; simp only [List.getElem?_toArray, List.getElem?_cons_zero, List.getElem?_cons_succ]; go_simp; try with_reducible rfl
      try simp only [Act.put, List.setIfInBounds_toArray, List.set_cons_zero, List.set_cons_succ]
      refine held_w (i := 1) (d := some 41) (v := ?_) rfl (by kernel_rfl) (by kernel_rfl) (by kernel_rfl) (fun _ _ _ h => h) (by rfl) ?_ hHeld ?_
      rotate_left
      · intro w' hSw; obtain ⟨q0, q1, q2, q3, q4⟩ := hSw; simp only [List.getElem?_toArray, List.getElem?_cons_zero, List.getElem?_cons_succ]; go_simp; try with_reducible rfl
      try simp only [Act.put, List.setIfInBounds_toArray, List.set_cons_zero, List.set_cons_succ]
      refine held_w (i := 2) (d := some 42) (v := ?_) rfl (by kernel_rfl) (by kernel_rfl) (by kernel_rfl) (fun _ _ _ h => h) (by rfl) ?_ hHeld ?_
      rotate_left
      · intro w' hSw; obtain ⟨q0, q1, q2, q3, q4⟩ := hSw; simp only [List.getElem?_toArray, List.getElem?_cons_zero, List.getElem?_cons_succ]; go_simp; try with_reducible rfl
      try simp only [Act.put, List.setIfInBounds_toArray, List.set_cons_zero, List.set_cons_succ]
      refine held_w (i := 3) (d := some 43) (v := ?_) rfl (by kernel_rfl) (by kernel_rfl) (by kernel_rfl) (fun _ _ _ h => h) (by rfl) ?_ hHeld ?_
      rotate_left
      · intro w' hSw; obtain ⟨q0, q1, q2, q3, q4⟩ := hSw; simp only [List.getElem?_toArray, List.getElem?_cons_zero, List.getElem?_cons_succ]; go_simp; try with_reducible rfl
      try simp only [Act.put, List.setIfInBounds_toArray, List.set_cons_zero, List.set_cons_succ]
      refine held_w (i := 4) (d := some 44) (v := ?_) rfl (by kernel_rfl) (by kernel_rfl) (by kernel_rfl) (fun _ _ _ h => h) (by rfl) ?_ hHeld ?_
      rotate_left
      · intro w' hSw; obtain ⟨q0, q1, q2, q3, q4⟩ := hSw; simp only [List.getElem?_toArray, List.getElem?_cons_zero, List.getElem?_cons_succ]; go_simp; try with_reducible rfl
      try simp only [Act.put, List.setIfInBounds_toArray, List.set_cons_zero, List.set_cons_succ]
      refine held_w (i := 5) (d := some 45) (v := ?_) rfl (by kernel_rfl) (by kernel_rfl) (by kernel_rfl) (fun _ _ _ h => h) (by rfl) ?_ hHeld ?_
      rotate_left
      · intro w' hSw; obtain ⟨q0, q1, q2, q3, q4⟩ := hSw; simp only [List.getElem?_toArray, List.getElem?_cons_zero, List.getElem?_cons_succ]; go_simp; try with_reducible rfl
      try simp only [Act.put, List.setIfInBounds_toArray, List.set_cons_zero, List.set_cons_succ]
      refine held_w (i := 6) (d := some 46) (v := ?_) rfl (by kernel_rfl) (by kernel_rfl) (by kernel_rfl) (fun _ _ _ h => h) (by rfl) ?_ hHeld ?_
      rotate_left
      · intro w' hSw; obtain ⟨q0, q1, q2, q3, q4⟩ := hSw; simp only [List.getElem?_toArray, List.getElem?_cons_zero, List.getElem?_cons_succ]; go_simp; try with_reducible rfl
      try simp only [Act.put, List.setIfInBounds_toArray, List.set_cons_zero, List.set_cons_succ]
      refine held_w (i := 7) (d := some 47) (v := ?_) rfl (by kernel_rfl) (by kernel_rfl) (by kernel_rfl) (fun _ _ _ h => h) (by rfl) ?_ hHeld ?_
      rotate_left
      · intro w' hSw; obtain ⟨q0, q1, q2, q3, q4⟩ := hSw; simp only [List.getElem?_toArray, List.getElem?_cons_zero, List.getElem?_cons_succ]; go_simp; try with_reducible rfl
      try simp only [Act.put, List.setIfInBounds_toArray, List.set_cons_zero, List.set_cons_succ]
      refine held_w (i := 8) (d := some 48) (v := ?_) rfl (by kernel_rfl) (by kernel_rfl) (by kernel_rfl) (fun _ _ _ h => h) (by rfl) ?_ hHeld ?_
      rotate_left
      · intro w' hSw; obtain ⟨q0, q1, q2, q3, q4⟩ := hSw; simp only [List.getElem?_toArray, List.getElem?_cons_zero, List.getElem?_cons_succ]; go_simp; try with_reducible rfl
      try simp only [Act.put, List.setIfInBounds_toArray, List.set_cons_zero, List.set_cons_succ]
      refine held_c (i := 9) (by kernel_rfl) (by rfl) (fun K hK => ?_)
      simp only [List.getElem?_toArray, List.getElem?_cons_zero, List.getElem?_cons_succ]
      go_simp
      refine (cc _).mono ?_
      rintro e w3 ⟨rfl, hb3⟩
      have hb4 := hHeld.2.2.2.2.trans (hb3.mono hHeld.2.2.2.2.size)
      refine hK.out _ _ (HS.out _ hb4) (fun hHeld => ?_)
      clear hK hb3
      try simp only [Act.put, List.setIfInBounds_toArray, List.set_cons_zero, List.set_cons_succ]
      refine held_w (i := 10) (d := some 50) (v := ?_) rfl (by kernel_rfl) (by kernel_rfl) (by kernel_rfl) (fun _ _ _ h => h) (by rfl) ?_ hHeld ?_
      rotate_left
      · intro w' hSw; obtain ⟨q0, q1, q2, q3, q4⟩ := hSw; simp only [List.getElem?_toArray, List.getElem?_cons_zero, List.getElem?_cons_succ]; go_simp; try with_reducible rfl
      try simp only [Act.put, List.setIfInBounds_toArray, List.set_cons_zero, List.set_cons_succ]
      refine wpAnyH_done (by kernel_rfl) ?_ _
      skip
      have hbq := hHeld.2.2.2.2
      have hrW := Lib.hid (HROW.out.below hbq)
      have hbB : Below B w w3 := hbw.trans (hbq.mono (by have := hbw.size; omega))
      clear hHeld hb4 hbq
      cases hlt2 : ltN y x with
      | true =>
        have hcl : c < 0 := by rw [← HC.out]; exact cmpN_lt hlt2
        have HI2 : Hid ((m < h + 1 → ltN (atN C (h + 1 - 1 - m)) x = true) ∧ (j < b → ltN (atN C (j - m)) x = false)) := ⟨fun _ => by rw [Nat.add_sub_cancel, HY.out]; exact hlt2, HI.out.2⟩
        clear hlt2
        go_wp2_with fail
        go_roundw
        case rel => exact ⟨h + 1, j, by go_num, rfl, by omega, by omega, hjb, hrW.out, HI2.out, hbB⟩
        case measure => simp [intOf]; omega
      | false =>
        have hcl : ¬ c < 0 := by rw [← HC.out]; exact cmpN_ge hlt2
        have HI2 : Hid ((m < i → ltN (atN C (i - 1 - m)) x = true) ∧ (h < b → ltN (atN C (h - m)) x = false)) := ⟨HI.out.1, fun _ => by rw [HY.out]; exact hlt2⟩
        clear hlt2
        go_wp2_with fail
        go_roundw
        case rel => exact ⟨i, h, rfl, rfl, hmi, by omega, by omega, hrW.out, HI2.out, hbB⟩
        case measure => simp [intOf]; omega
    · obtain rfl : i = j := by omega
      obtain ⟨k0, hk0⟩ : ∃ k0, k0 = i - m := ⟨_, rfl⟩
      have hkC : k0 ≤ C.length := by have h1 := HA.out; omega
      have hmf := merge_first (x := x) hC hkC (fun h => by have := HI.out.1 (by omega); rw [show k0 - 1 = i - 1 - m by omega]; exact this) (fun h => by have h1 := HA.out; have := HI.out.2 (by omega); rw [hk0]; exact this)
      have HMF := Lib.hid hmf
      have hCs : C = C.take k0 ++ C.drop k0 := (List.take_append_drop k0 C).symm
      obtain ⟨C1, hC1e⟩ : ∃ C1, C.take k0 = C1 := ⟨_, rfl⟩
      obtain ⟨C2, hC2e⟩ : ∃ C2, C.drop k0 = C2 := ⟨_, rfl⟩
      have hC1l : C1.length = k0 := by rw [← hC1e, List.length_take]; omega
      have hCC : C.length = k0 + C2.length := by rw [← hC2e, List.length_drop]; omega
      rw [hC1e, hC2e] at hCs HMF
      rw [hCs] at hrow
      have HROW := Lib.hid (show RowL g (P ++ C1.take 0 ++ x :: (C1.drop 0 ++ C2 ++ S)) wr by simpa using hrow)
      have hs1 := hbw.size
      have hi1 : 1 ≤ i := by omega
      have ei : (i : Int) - 1 = ((i - 1 : Nat) : Int) := by omega
      obtain ⟨i1, hi1e⟩ : ∃ i1, i1 = i - 1 := ⟨_, rfl⟩
      rw [← hi1e] at ei
      have hai : a + k0 = i1 := by omega
      have hiN : i1 < N := by omega
      clear hmf hC1e hC2e hCs hrow HI hk0 hi1e em1
      go_wp2_with fail
      obtain ⟨wo, rfl⟩ : ∃ wo : World, wo = wr := ⟨_, rfl⟩
      go_loopw [13] (fun c wr => ∃ t : Nat, c = .int .i64 ((a + t : Nat) : Int) ∧ t ≤ k0 ∧ RowL g (P ++ C1.take t ++ x :: (C1.drop t ++ C2 ++ S)) wr ∧ Below B w wr) (fun c _ => i1 - (intOf c).toNat)
      case atStart => exact ⟨0, by simp, by omega, HROW.out, hbw⟩
      case round =>
        obtain ⟨t, rfl, ht, hrow, hbr⟩ := hrel
        obtain ⟨u, hu⟩ : ∃ u, u = a + t := ⟨_, rfl⟩
        rw [← hu]
        by_cases htk : t < k0
        · obtain ⟨z, hz⟩ : ∃ z, C1[t]'(by omega) = z := ⟨_, rfl⟩
          have e1 : C1.drop t = z :: C1.drop (t + 1) := by rw [List.drop_eq_getElem_cons (by omega), hz]
          have e2 : C1.take (t + 1) = C1.take t ++ [z] := by rw [List.take_succ_eq_append_getElem (by omega), hz]
          rw [e1] at hrow
          have hrow' : RowL g ((P ++ C1.take t) ++ x :: z :: (C1.drop (t + 1) ++ C2 ++ S)) wr := by simpa using hrow
          have hDl : u = (P ++ C1.take t).length := by have h1 := HA.out; simp; omega
          obtain ⟨y0, y1, fy0, fy1⟩ := hrow'.get u hDl
          obtain ⟨x0, x1, fx0, fx1⟩ := RowL.get (g := g) (D := (P ++ C1.take t) ++ [x]) (x := z) (E := C1.drop (t + 1) ++ C2 ++ S) (w := wr) (by simpa using hrow') (u + 1) (by simp at hDl ⊢; omega)
          have iu : (0 : Int) ≤ (u : Int) ∧ (u : Int) < (N : Int) := by omega
          have iv : (0 : Int) ≤ (u : Int) + 1 ∧ (u : Int) + 1 < (N : Int) := by omega
          have wu : IntKind.i64.wrap ((u : Int) + 1) = (u : Int) + 1 := IntWalk.i64_in _ (by omega)
          have hui : (u : Int) < (i1 : Int) := by omega
          have HP2 := Lib.hid (fun W (hW : RowL g ((P ++ C1.take t) ++ x :: z :: (C1.drop (t + 1) ++ C2 ++ S)) W) => put_two' hW u hDl)
          have HRR := Lib.hid hrow'
          have HE2 : Hid (P ++ C1.take t ++ z :: x :: (C1.drop (t + 1) ++ C2 ++ S) = P ++ C1.take (t + 1) ++ x :: (C1.drop (t + 1) ++ C2 ++ S)) := by show _ = _; rw [e2]; simp
          have HU := Lib.hid hu
          have hua : a ≤ u := by omega
          clear e1 e2 hz hrow hrow' hDl hu
          go_wp2_with fail
          refine wp_region_held_drew (S := fun _ => True) (by kernel_rfl) trivial (fun hHeld => ?_)
          refine held_w (i := 0) (d := some 61) (v := ?_) rfl (by kernel_rfl) (by kernel_rfl) (by kernel_rfl) (fun _ _ _ h => h) (by rfl) ?_ hHeld ?_
          rotate_left
          · intro w' hSw; obtain ⟨q0⟩ := hSw; simp only [List.getElem?_toArray, List.getElem?_cons_zero, List.getElem?_cons_succ]; go_simp; try with_reducible rfl
          try simp only [Act.put, List.setIfInBounds_toArray, List.set_cons_zero, List.set_cons_succ]
          refine held_w (i := 1) (d := some 62) (v := ?_) rfl (by kernel_rfl) (by kernel_rfl) (by kernel_rfl) (fun _ _ _ h => h) (by rfl) ?_ hHeld ?_
          rotate_left
          · intro w' hSw; obtain ⟨q0⟩ := hSw; simp only [List.getElem?_toArray, List.getElem?_cons_zero, List.getElem?_cons_succ]; go_simp; try with_reducible rfl
          try simp only [Act.put, List.setIfInBounds_toArray, List.set_cons_zero, List.set_cons_succ]
          refine held_w (i := 2) (d := some 63) (v := ?_) rfl (by kernel_rfl) (by kernel_rfl) (by kernel_rfl) (fun _ _ _ h => h) (by rfl) ?_ hHeld ?_
          rotate_left
          · intro w' hSw; obtain ⟨q0⟩ := hSw; simp only [List.getElem?_toArray, List.getElem?_cons_zero, List.getElem?_cons_succ]; go_simp; try with_reducible rfl
          try simp only [Act.put, List.setIfInBounds_toArray, List.set_cons_zero, List.set_cons_succ]
          refine held_w (i := 3) (d := some 64) (v := ?_) rfl (by kernel_rfl) (by kernel_rfl) (by kernel_rfl) (fun _ _ _ h => h) (by rfl) ?_ hHeld ?_
          rotate_left
          · intro w' hSw; obtain ⟨q0⟩ := hSw; simp only [List.getElem?_toArray, List.getElem?_cons_zero, List.getElem?_cons_succ]; go_simp; try with_reducible rfl
          try simp only [Act.put, List.setIfInBounds_toArray, List.set_cons_zero, List.set_cons_succ]
          refine held_w (i := 4) (d := some 65) (v := ?_) rfl (by kernel_rfl) (by kernel_rfl) (by kernel_rfl) (fun _ _ _ h => h) (by rfl) ?_ hHeld ?_
          rotate_left
          · intro w' hSw; obtain ⟨q0⟩ := hSw; simp only [List.getElem?_toArray, List.getElem?_cons_zero, List.getElem?_cons_succ]; go_simp; try with_reducible rfl
          try simp only [Act.put, List.setIfInBounds_toArray, List.set_cons_zero, List.set_cons_succ]
          refine held_w (i := 5) (d := some 66) (v := ?_) rfl (by kernel_rfl) (by kernel_rfl) (by kernel_rfl) (fun _ _ _ h => h) (by rfl) ?_ hHeld ?_
          rotate_left
          · intro w' hSw; obtain ⟨q0⟩ := hSw; simp only [List.getElem?_toArray, List.getElem?_cons_zero, List.getElem?_cons_succ]; go_simp; try with_reducible rfl
          try simp only [Act.put, List.setIfInBounds_toArray, List.set_cons_zero, List.set_cons_succ]
          refine held_w (i := 6) (d := some 67) (v := ?_) rfl (by kernel_rfl) (by kernel_rfl) (by kernel_rfl) (fun _ _ _ h => h) (by rfl) ?_ hHeld ?_
          rotate_left
          · intro w' hSw; obtain ⟨q0⟩ := hSw; simp only [List.getElem?_toArray, List.getElem?_cons_zero, List.getElem?_cons_succ]; go_simp; try with_reducible rfl
          try simp only [Act.put, List.setIfInBounds_toArray, List.set_cons_zero, List.set_cons_succ]
          refine held_w (i := 7) (d := some 68) (v := ?_) rfl (by kernel_rfl) (by kernel_rfl) (by kernel_rfl) (fun _ _ _ h => h) (by rfl) ?_ hHeld ?_
          rotate_left
          · intro w' hSw; obtain ⟨q0⟩ := hSw; simp only [List.getElem?_toArray, List.getElem?_cons_zero, List.getElem?_cons_succ]; go_simp; try with_reducible rfl
          try simp only [Act.put, List.setIfInBounds_toArray, List.set_cons_zero, List.set_cons_succ]
          refine held_w (i := 8) (d := some 69) (v := ?_) rfl (by kernel_rfl) (by kernel_rfl) (by kernel_rfl) (fun _ _ _ h => h) (by rfl) ?_ hHeld ?_
          rotate_left
          · intro w' hSw; obtain ⟨q0⟩ := hSw; simp only [List.getElem?_toArray, List.getElem?_cons_zero, List.getElem?_cons_succ]; go_simp; try with_reducible rfl
          try simp only [Act.put, List.setIfInBounds_toArray, List.set_cons_zero, List.set_cons_succ]
          refine held_w (i := 10) (d := some 71) (v := ?_) rfl (by kernel_rfl) (by kernel_rfl) (by kernel_rfl) (fun _ _ _ h => h) (by rfl) ?_ hHeld ?_
          rotate_left
          · intro w' hSw; obtain ⟨q0⟩ := hSw; simp only [List.getElem?_toArray, List.getElem?_cons_zero, List.getElem?_cons_succ]; go_simp; try with_reducible rfl
          try simp only [Act.put, List.setIfInBounds_toArray, List.set_cons_zero, List.set_cons_succ]
          refine held_w (i := 11) (d := some 72) (v := ?_) rfl (by kernel_rfl) (by kernel_rfl) (by kernel_rfl) (fun _ _ _ h => h) (by rfl) ?_ hHeld ?_
          rotate_left
          · intro w' hSw; obtain ⟨q0⟩ := hSw; simp only [List.getElem?_toArray, List.getElem?_cons_zero, List.getElem?_cons_succ]; go_simp; try with_reducible rfl
          try simp only [Act.put, List.setIfInBounds_toArray, List.set_cons_zero, List.set_cons_succ]
          refine held_w (i := 12) (d := some 73) (v := ?_) rfl (by kernel_rfl) (by kernel_rfl) (by kernel_rfl) (fun _ _ _ h => h) (by rfl) ?_ hHeld ?_
          rotate_left
          · intro w' hSw; obtain ⟨q0⟩ := hSw; simp only [List.getElem?_toArray, List.getElem?_cons_zero, List.getElem?_cons_succ]; go_simp; try with_reducible rfl
          try simp only [Act.put, List.setIfInBounds_toArray, List.set_cons_zero, List.set_cons_succ]
          refine held_many (rs := [9, 13]) (by kernel_rfl) (by simp) ⟨?_, ?_, trivial⟩
          · refine ⟨by rfl, fun K hK => ?_⟩
            simp only [List.getElem?_toArray, List.getElem?_cons_zero, List.getElem?_cons_succ]
            go_simp
            refine hK.out _ _ trivial (fun hHeld => ?_)
            clear hK K
            try simp only [Act.put, List.setIfInBounds_toArray, List.set_cons_zero, List.set_cons_succ]
            refine held_c (i := 13) (by kernel_rfl) (by rfl) (fun K hK => ?_)
            simp only [List.getElem?_toArray, List.getElem?_cons_zero, List.getElem?_cons_succ]
            go_simp
            refine hK.out _ _ trivial (fun hHeld => ?_)
            clear hK K
            try simp only [Act.put, List.setIfInBounds_toArray, List.set_cons_zero, List.set_cons_succ]
            refine held_w (i := 14) (d := some 75) (v := ?_) rfl (by kernel_rfl) (by kernel_rfl) (by kernel_rfl) (fun _ _ _ h => h) (by rfl) ?_ hHeld ?_
            rotate_left
            · intro w' hSw; obtain ⟨q0⟩ := hSw; simp only [List.getElem?_toArray, List.getElem?_cons_zero, List.getElem?_cons_succ]; go_simp; try with_reducible rfl
            try simp only [Act.put, List.setIfInBounds_toArray, List.set_cons_zero, List.set_cons_succ]
            refine held_c (i := 15) (by kernel_rfl) (by rfl) (fun K hK => ?_)
            simp only [List.getElem?_toArray, List.getElem?_cons_zero, List.getElem?_cons_succ]
            go_simp
            refine hK.out _ _ trivial (fun hHeld => ?_)
            clear hK K
            try simp only [Act.put, List.setIfInBounds_toArray, List.set_cons_zero, List.set_cons_succ]
            refine held_w (i := 16) (d := some 76) (v := ?_) rfl (by kernel_rfl) (by kernel_rfl) (by kernel_rfl) (fun _ _ _ h => h) (by rfl) ?_ hHeld ?_
            rotate_left
            · intro w' hSw; obtain ⟨q0⟩ := hSw; simp only [List.getElem?_toArray, List.getElem?_cons_zero, List.getElem?_cons_succ]; go_simp; try with_reducible rfl
            try simp only [Act.put, List.setIfInBounds_toArray, List.set_cons_zero, List.set_cons_succ]
            refine held_c (i := 17) (by kernel_rfl) (by rfl) (fun K hK => ?_)
            simp only [List.getElem?_toArray, List.getElem?_cons_zero, List.getElem?_cons_succ]
            go_simp
            refine hK.out _ _ trivial (fun hHeld => ?_)
            clear hK K
            try simp only [Act.put, List.setIfInBounds_toArray, List.set_cons_zero, List.set_cons_succ]
            refine wpAnyH_done (by kernel_rfl) ?_ _
            have hp := HP2.out _ HRR.out
            rw [HE2.out] at hp
            have hbf := below_four hbr hg (u * 2) (u * 2 + 1) ((u + 1) * 2) ((u + 1) * 2 + 1) (.string (str z.1)) (.string (str z.2)) (.string (str x.1)) (.string (str x.2))
            have HPP := Lib.hid hp
            clear hp hHeld y0 y1 fy0 fy1 x0 x1 fx0 fx1
            generalize (((wr.setCell ⟨g, u * 2, none⟩ (.string (str z.1))).setCell ⟨g, u * 2 + 1, none⟩ (.string (str z.2))).setCell ⟨g, (u + 1) * 2, none⟩ (.string (str x.1))).setCell ⟨g, (u + 1) * 2 + 1, none⟩ (.string (str x.2)) = wz at *
            go_wp2_with fail
            go_roundw
            case rel => exact ⟨t + 1, by rw [HU.out]; simp; omega, by omega, HPP.out.drew, hbf.drew⟩
            case measure => simp [intOf]; omega
          · refine ⟨by rfl, fun K hK => ?_⟩
            simp only [List.getElem?_toArray, List.getElem?_cons_zero, List.getElem?_cons_succ]
            go_simp
            refine hK.out _ _ trivial (fun hHeld => ?_)
            clear hK K
            try simp only [Act.put, List.setIfInBounds_toArray, List.set_cons_zero, List.set_cons_succ]
            refine held_c (i := 9) (by kernel_rfl) (by rfl) (fun K hK => ?_)
            simp only [List.getElem?_toArray, List.getElem?_cons_zero, List.getElem?_cons_succ]
            go_simp
            refine hK.out _ _ trivial (fun hHeld => ?_)
            clear hK K
            try simp only [Act.put, List.setIfInBounds_toArray, List.set_cons_zero, List.set_cons_succ]
            refine held_w (i := 14) (d := some 75) (v := ?_) rfl (by kernel_rfl) (by kernel_rfl) (by kernel_rfl) (fun _ _ _ h => h) (by rfl) ?_ hHeld ?_
            rotate_left
            · intro w' hSw; obtain ⟨q0⟩ := hSw; simp only [List.getElem?_toArray, List.getElem?_cons_zero, List.getElem?_cons_succ]; go_simp; try with_reducible rfl
            try simp only [Act.put, List.setIfInBounds_toArray, List.set_cons_zero, List.set_cons_succ]
            refine held_c (i := 15) (by kernel_rfl) (by rfl) (fun K hK => ?_)
            simp only [List.getElem?_toArray, List.getElem?_cons_zero, List.getElem?_cons_succ]
            go_simp
            refine hK.out _ _ trivial (fun hHeld => ?_)
            clear hK K
            try simp only [Act.put, List.setIfInBounds_toArray, List.set_cons_zero, List.set_cons_succ]
            refine held_w (i := 16) (d := some 76) (v := ?_) rfl (by kernel_rfl) (by kernel_rfl) (by kernel_rfl) (fun _ _ _ h => h) (by rfl) ?_ hHeld ?_
            rotate_left
            · intro w' hSw; obtain ⟨q0⟩ := hSw; simp only [List.getElem?_toArray, List.getElem?_cons_zero, List.getElem?_cons_succ]; go_simp; try with_reducible rfl
            try simp only [Act.put, List.setIfInBounds_toArray, List.set_cons_zero, List.set_cons_succ]
            refine held_c (i := 17) (by kernel_rfl) (by rfl) (fun K hK => ?_)
            simp only [List.getElem?_toArray, List.getElem?_cons_zero, List.getElem?_cons_succ]
            go_simp
            refine hK.out _ _ trivial (fun hHeld => ?_)
            clear hK K
            try simp only [Act.put, List.setIfInBounds_toArray, List.set_cons_zero, List.set_cons_succ]
            refine wpAnyH_done (by kernel_rfl) ?_ _
            have hp := HP2.out _ HRR.out
            rw [HE2.out] at hp
            have hbf := below_four hbr hg (u * 2) (u * 2 + 1) ((u + 1) * 2) ((u + 1) * 2 + 1) (.string (str z.1)) (.string (str z.2)) (.string (str x.1)) (.string (str x.2))
            have HPP := Lib.hid hp
            clear hp hHeld y0 y1 fy0 fy1 x0 x1 fx0 fx1
            generalize (((wr.setCell ⟨g, u * 2, none⟩ (.string (str z.1))).setCell ⟨g, u * 2 + 1, none⟩ (.string (str z.2))).setCell ⟨g, (u + 1) * 2, none⟩ (.string (str x.1))).setCell ⟨g, (u + 1) * 2 + 1, none⟩ (.string (str x.2)) = wz at *
            go_wp2_with fail
            go_roundw
            case rel => exact ⟨t + 1, by rw [HU.out]; simp; omega, by omega, HPP.out.drew, hbf.drew⟩
            case measure => simp [intOf]; omega
        · obtain rfl : t = k0 := by omega
          have hnl : ¬ (u : Int) < (i1 : Int) := by omega
          clear hu
          have HF : Hid (RowL g (P ++ (C1 ++ x :: C2) ++ S) wr) := by
            show RowL _ _ _
            rw [List.take_of_length_le (by omega), List.drop_eq_nil_of_le (by omega)] at hrow
            simpa using hrow
          go_wp2_with fail
          refine bodyPost_ret (results_none rfl _ _ _) rfl ?_
          exact ⟨rfl, ⟨C1 ++ x :: C2, by simpa using HF.out, HMF.out.1, HMF.out.2, by simp; omega⟩, hbr⟩
end Go.Proofs.YtdbifbgjbfnfmaaGreatDoor
