/-
  Layer 4 (label): two pieces of a row of labels change places; a row is turned.
-/
import Derived.Test.YtopnnhjfcfhihaaLabelSrt
namespace Go.Proofs.Ytopnnhjfcfhihaa
open Go.RowKit Go.Deep
attribute [local go_sem] str_size str_append str_toList str_get str_extract
set_option linter.unusedVariables false
set_option linter.unusedSimpArgs false
/-- i places have been changed. -/
def SwAt (P X M Y S : List Lab) (i : Nat) : List Lab := P ++ (Y.take i ++ X.drop i) ++ M ++ (X.take i ++ Y.drop i) ++ S
theorem SwAt.two {P X M Y S : List Lab} {i n : Nat} (hX : X.length = n) (hY : Y.length = n) (hi : i < n) : ∃ D x E y F, SwAt P X M Y S i = D ++ x :: (E ++ y :: F) ∧ SwAt P X M Y S (i + 1) = D ++ y :: (E ++ x :: F) ∧ D.length = P.length + i ∧ D.length + 1 + E.length = P.length + n + M.length + i := by
  have h1 : X.drop i = X[i] :: X.drop (i + 1) := List.drop_eq_getElem_cons (by omega)
  have h2 : Y.drop i = Y[i] :: Y.drop (i + 1) := List.drop_eq_getElem_cons (by omega)
  have h3 : X.take (i + 1) = X.take i ++ [X[i]] := List.take_succ_eq_append_getElem (by omega)
  have h4 : Y.take (i + 1) = Y.take i ++ [Y[i]] := List.take_succ_eq_append_getElem (by omega)
  refine ⟨P ++ Y.take i, X[i], X.drop (i + 1) ++ M ++ X.take i, Y[i], Y.drop (i + 1) ++ S, ?_, ?_, ?_, ?_⟩
  · unfold SwAt; rw [h1, h2]; simp only [List.append_assoc, List.cons_append, List.nil_append]
  · unfold SwAt; rw [h3, h4]; simp only [List.append_assoc, List.cons_append, List.nil_append]
  · simp; omega
  · simp; omega
set_option maxHeartbeats 4000000 in
theorem swapRange_c (g B N cap a b n : Nat) (P X M Y S : List Lab) (w : World) (hg : B ≤ g) (ha : a = P.length) (hb : b = P.length + n + M.length) (hX : X.length = n) (hY : Y.length = n) (hN : P.length + n + M.length + n ≤ N) (hn : N ≤ 4096) (hr : RowL g (P ++ X ++ M ++ Y ++ S) w) (cf : Value) :
    Calls Try.prog 39 #[.slice (some ⟨g, 0, none⟩) N cap, .int .i64 (a : Int), .int .i64 (b : Int), .int .i64 (n : Int), cf] w fun e w' => e = .returned (.tuple #[]) ∧ RowL g (P ++ Y ++ M ++ X ++ S) w' ∧ Below B w w' := by
  have H0 : Hid (RowL g (SwAt P X M Y S 0) w) := by show RowL _ _ _; unfold SwAt; simpa using hr
  have H1 : Hid (SwAt P X M Y S n = P ++ Y ++ M ++ X ++ S) := by
    show _ = _
    unfold SwAt
    rw [List.take_of_length_le (by omega : Y.length ≤ n), List.take_of_length_le (by omega : X.length ≤ n), List.drop_eq_nil_of_le (by omega : Y.length ≤ n), List.drop_eq_nil_of_le (by omega : X.length ≤ n)]
    simp
  have HX := Lib.hid (And.intro hX hY)
  have HA := Lib.hid (And.intro ha hb)
  have han : a + n ≤ b := by omega
  have hbn : b + n ≤ N := by omega
  clear hr hX hY ha hb hN
  go_enter Try.func39, Try.ntmps39
  go_wp2_with fail
  go_loopw [10] (fun c wr => ∃ i : Nat, c = .int .i64 i ∧ i ≤ n ∧ RowL g (SwAt P X M Y S i) wr ∧ Below B w wr) (fun c _ => n - (intOf c).toNat)
  case atStart => exact ⟨0, rfl, by omega, H0.out, Below.refl _ _⟩
  case round =>
    obtain ⟨i, rfl, hi, hrow, hbw⟩ := hrel
    by_cases hlt : i < n
    · obtain ⟨D, x, E, y, F, e1, e2, hD, hE⟩ := SwAt.two (P := P) (M := M) (S := S) HX.out.1 HX.out.2 hlt
      rw [e1] at hrow
      obtain ⟨u, hu⟩ : ∃ u, u = a + i := ⟨_, rfl⟩
      obtain ⟨v, hv⟩ : ∃ v, v = b + i := ⟨_, rfl⟩
      have hDu : u = D.length := by have := HA.out.1; omega
      have hDv : v = D.length + 1 + E.length := by have := HA.out.2; omega
      obtain ⟨x0, x1, fx0, fx1⟩ := hrow.get (D := D) (x := x) u hDu
      obtain ⟨y0, y1, fy0, fy1⟩ := RowL.get (g := g) (D := D ++ x :: E) (x := y) (E := F) (w := wr) (by simpa using hrow) v (by simp; omega)
      have eu : (a : Int) + (i : Int) = (u : Int) := by omega
      have ev : (b : Int) + (i : Int) = (v : Int) := by omega
      have iu : (0 : Int) ≤ (u : Int) ∧ (u : Int) < (N : Int) := by omega
      have iv : (0 : Int) ≤ (v : Int) ∧ (v : Int) < (N : Int) := by omega
      have wu : IntKind.i64.wrap (u : Int) = (u : Int) := IntWalk.i64_in _ (by omega)
      have wv : IntKind.i64.wrap (v : Int) = (v : Int) := IntWalk.i64_in _ (by omega)
      have HROW := Lib.hid hrow
      have HE2 := Lib.hid e2
      have HDU := Lib.hid (And.intro hDu hDv)
      clear e1 e2 hrow hu hv hDu hDv hD hE
      go_wp2_with fail
      refine wp_region_held_drew (S := fun _ => True) (by kernel_rfl) trivial (fun hHeld => ?_)
      refine held_w (i := 0) (d := some 16) (v := ?_) rfl (by kernel_rfl) (by kernel_rfl) (by kernel_rfl) (fun _ _ _ h => h) (by rfl) ?_ hHeld ?_
      rotate_left
      · intro w' hSw; obtain ⟨q0⟩ := hSw; simp only [List.getElem?_toArray, List.getElem?_cons_zero, List.getElem?_cons_succ]; go_simp; try with_reducible rfl
      try simp only [Act.put, List.setIfInBounds_toArray, List.set_cons_zero, List.set_cons_succ]
      refine held_w (i := 1) (d := some 17) (v := ?_) rfl (by kernel_rfl) (by kernel_rfl) (by kernel_rfl) (fun _ _ _ h => h) (by rfl) ?_ hHeld ?_
      rotate_left
      · intro w' hSw; obtain ⟨q0⟩ := hSw; simp only [List.getElem?_toArray, List.getElem?_cons_zero, List.getElem?_cons_succ]; go_simp; try with_reducible rfl
      try simp only [Act.put, List.setIfInBounds_toArray, List.set_cons_zero, List.set_cons_succ]
      refine held_w (i := 2) (d := some 18) (v := ?_) rfl (by kernel_rfl) (by kernel_rfl) (by kernel_rfl) (fun _ _ _ h => h) (by rfl) ?_ hHeld ?_
      rotate_left
      · intro w' hSw; obtain ⟨q0⟩ := hSw; simp only [List.getElem?_toArray, List.getElem?_cons_zero, List.getElem?_cons_succ]; go_simp; try with_reducible rfl
      try simp only [Act.put, List.setIfInBounds_toArray, List.set_cons_zero, List.set_cons_succ]
      refine held_w (i := 3) (d := some 19) (v := ?_) rfl (by kernel_rfl) (by kernel_rfl) (by kernel_rfl) (fun _ _ _ h => h) (by rfl) ?_ hHeld ?_
      rotate_left
      · intro w' hSw; obtain ⟨q0⟩ := hSw; simp only [List.getElem?_toArray, List.getElem?_cons_zero, List.getElem?_cons_succ]; go_simp; try with_reducible rfl
      try simp only [Act.put, List.setIfInBounds_toArray, List.set_cons_zero, List.set_cons_succ]
      refine held_w (i := 4) (d := some 20) (v := ?_) rfl (by kernel_rfl) (by kernel_rfl) (by kernel_rfl) (fun _ _ _ h => h) (by rfl) ?_ hHeld ?_
      rotate_left
      · intro w' hSw; obtain ⟨q0⟩ := hSw; simp only [List.getElem?_toArray, List.getElem?_cons_zero, List.getElem?_cons_succ]; go_simp; try with_reducible rfl
      try simp only [Act.put, List.setIfInBounds_toArray, List.set_cons_zero, List.set_cons_succ]
      refine held_w (i := 5) (d := some 21) (v := ?_) rfl (by kernel_rfl) (by kernel_rfl) (by kernel_rfl) (fun _ _ _ h => h) (by rfl) ?_ hHeld ?_
      rotate_left
      · intro w' hSw; obtain ⟨q0⟩ := hSw; simp only [List.getElem?_toArray, List.getElem?_cons_zero, List.getElem?_cons_succ]; go_simp; try with_reducible rfl
      try simp only [Act.put, List.setIfInBounds_toArray, List.set_cons_zero, List.set_cons_succ]
      refine held_w (i := 6) (d := some 22) (v := ?_) rfl (by kernel_rfl) (by kernel_rfl) (by kernel_rfl) (fun _ _ _ h => h) (by rfl) ?_ hHeld ?_
      rotate_left
      · intro w' hSw; obtain ⟨q0⟩ := hSw; simp only [List.getElem?_toArray, List.getElem?_cons_zero, List.getElem?_cons_succ]; go_simp; try with_reducible rfl
      try simp only [Act.put, List.setIfInBounds_toArray, List.set_cons_zero, List.set_cons_succ]
      refine held_w (i := 7) (d := some 23) (v := ?_) rfl (by kernel_rfl) (by kernel_rfl) (by kernel_rfl) (fun _ _ _ h => h) (by rfl) ?_ hHeld ?_
      rotate_left
      · intro w' hSw; obtain ⟨q0⟩ := hSw; simp only [List.getElem?_toArray, List.getElem?_cons_zero, List.getElem?_cons_succ]; go_simp; try with_reducible rfl
      try simp only [Act.put, List.setIfInBounds_toArray, List.set_cons_zero, List.set_cons_succ]
      refine held_w (i := 8) (d := some 24) (v := ?_) rfl (by kernel_rfl) (by kernel_rfl) (by kernel_rfl) (fun _ _ _ h => h) (by rfl) ?_ hHeld ?_
      rotate_left
      · intro w' hSw; obtain ⟨q0⟩ := hSw; simp only [List.getElem?_toArray, List.getElem?_cons_zero, List.getElem?_cons_succ]; go_simp; try with_reducible rfl
      try simp only [Act.put, List.setIfInBounds_toArray, List.set_cons_zero, List.set_cons_succ]
      refine held_w (i := 9) (d := some 25) (v := ?_) rfl (by kernel_rfl) (by kernel_rfl) (by kernel_rfl) (fun _ _ _ h => h) (by rfl) ?_ hHeld ?_
      rotate_left
      · intro w' hSw; obtain ⟨q0⟩ := hSw; simp only [List.getElem?_toArray, List.getElem?_cons_zero, List.getElem?_cons_succ]; go_simp; try with_reducible rfl
      try simp only [Act.put, List.setIfInBounds_toArray, List.set_cons_zero, List.set_cons_succ]
      refine held_w (i := 10) (d := some 26) (v := ?_) rfl (by kernel_rfl) (by kernel_rfl) (by kernel_rfl) (fun _ _ _ h => h) (by rfl) ?_ hHeld ?_
      rotate_left
      · intro w' hSw; obtain ⟨q0⟩ := hSw; simp only [List.getElem?_toArray, List.getElem?_cons_zero, List.getElem?_cons_succ]; go_simp; try with_reducible rfl
      try simp only [Act.put, List.setIfInBounds_toArray, List.set_cons_zero, List.set_cons_succ]
      refine held_w (i := 11) (d := some 27) (v := ?_) rfl (by kernel_rfl) (by kernel_rfl) (by kernel_rfl) (fun _ _ _ h => h) (by rfl) ?_ hHeld ?_
      rotate_left
      · intro w' hSw; obtain ⟨q0⟩ := hSw; simp only [List.getElem?_toArray, List.getElem?_cons_zero, List.getElem?_cons_succ]; go_simp; try with_reducible rfl
      try simp only [Act.put, List.setIfInBounds_toArray, List.set_cons_zero, List.set_cons_succ]
      refine held_w (i := 12) (d := some 28) (v := ?_) rfl (by kernel_rfl) (by kernel_rfl) (by kernel_rfl) (fun _ _ _ h => h) (by rfl) ?_ hHeld ?_
      rotate_left
      · intro w' hSw; obtain ⟨q0⟩ := hSw; simp only [List.getElem?_toArray, List.getElem?_cons_zero, List.getElem?_cons_succ]; go_simp; try with_reducible rfl
      try simp only [Act.put, List.setIfInBounds_toArray, List.set_cons_zero, List.set_cons_succ]
      refine held_w (i := 14) (d := some 30) (v := ?_) rfl (by kernel_rfl) (by kernel_rfl) (by kernel_rfl) (fun _ _ _ h => h) (by rfl) ?_ hHeld ?_
      rotate_left
      · intro w' hSw; obtain ⟨q0⟩ := hSw; simp only [List.getElem?_toArray, List.getElem?_cons_zero, List.getElem?_cons_succ]; go_simp; try with_reducible rfl
      try simp only [Act.put, List.setIfInBounds_toArray, List.set_cons_zero, List.set_cons_succ]
      refine held_w (i := 15) (d := some 31) (v := ?_) rfl (by kernel_rfl) (by kernel_rfl) (by kernel_rfl) (fun _ _ _ h => h) (by rfl) ?_ hHeld ?_
      rotate_left
      · intro w' hSw; obtain ⟨q0⟩ := hSw; simp only [List.getElem?_toArray, List.getElem?_cons_zero, List.getElem?_cons_succ]; go_simp; try with_reducible rfl
      try simp only [Act.put, List.setIfInBounds_toArray, List.set_cons_zero, List.set_cons_succ]
      refine held_w (i := 16) (d := some 32) (v := ?_) rfl (by kernel_rfl) (by kernel_rfl) (by kernel_rfl) (fun _ _ _ h => h) (by rfl) ?_ hHeld ?_
      rotate_left
      · intro w' hSw; obtain ⟨q0⟩ := hSw; simp only [List.getElem?_toArray, List.getElem?_cons_zero, List.getElem?_cons_succ]; go_simp; try with_reducible rfl
      try simp only [Act.put, List.setIfInBounds_toArray, List.set_cons_zero, List.set_cons_succ]
      refine held_w (i := 17) (d := some 33) (v := ?_) rfl (by kernel_rfl) (by kernel_rfl) (by kernel_rfl) (fun _ _ _ h => h) (by rfl) ?_ hHeld ?_
      rotate_left
      · intro w' hSw; obtain ⟨q0⟩ := hSw; simp only [List.getElem?_toArray, List.getElem?_cons_zero, List.getElem?_cons_succ]; go_simp; try with_reducible rfl
      try simp only [Act.put, List.setIfInBounds_toArray, List.set_cons_zero, List.set_cons_succ]
      refine held_w (i := 18) (d := some 34) (v := ?_) rfl (by kernel_rfl) (by kernel_rfl) (by kernel_rfl) (fun _ _ _ h => h) (by rfl) ?_ hHeld ?_
      rotate_left
      · intro w' hSw; obtain ⟨q0⟩ := hSw; simp only [List.getElem?_toArray, List.getElem?_cons_zero, List.getElem?_cons_succ]; go_simp; try with_reducible rfl
      try simp only [Act.put, List.setIfInBounds_toArray, List.set_cons_zero, List.set_cons_succ]
      refine held_many (rs := [13, 19]) (by kernel_rfl) (by simp) ⟨?_, ?_, trivial⟩
      · refine ⟨by rfl, fun K hK => ?_⟩
        simp only [List.getElem?_toArray, List.getElem?_cons_zero, List.getElem?_cons_succ]
        go_simp
        refine hK.out _ _ trivial (fun hHeld => ?_)
        clear hK K
        try simp only [Act.put, List.setIfInBounds_toArray, List.set_cons_zero, List.set_cons_succ]
        refine held_c (i := 19) (by kernel_rfl) (by rfl) (fun K hK => ?_)
        simp only [List.getElem?_toArray, List.getElem?_cons_zero, List.getElem?_cons_succ]
        go_simp
        refine hK.out _ _ trivial (fun hHeld => ?_)
        clear hK K
        try simp only [Act.put, List.setIfInBounds_toArray, List.set_cons_zero, List.set_cons_succ]
        refine held_w (i := 20) (d := some 36) (v := ?_) rfl (by kernel_rfl) (by kernel_rfl) (by kernel_rfl) (fun _ _ _ h => h) (by rfl) ?_ hHeld ?_
        rotate_left
        · intro w' hSw; obtain ⟨q0⟩ := hSw; simp only [List.getElem?_toArray, List.getElem?_cons_zero, List.getElem?_cons_succ]; go_simp; try with_reducible rfl
        try simp only [Act.put, List.setIfInBounds_toArray, List.set_cons_zero, List.set_cons_succ]
        refine held_c (i := 21) (by kernel_rfl) (by rfl) (fun K hK => ?_)
        simp only [List.getElem?_toArray, List.getElem?_cons_zero, List.getElem?_cons_succ]
        go_simp
        refine hK.out _ _ trivial (fun hHeld => ?_)
        clear hK K
        try simp only [Act.put, List.setIfInBounds_toArray, List.set_cons_zero, List.set_cons_succ]
        refine held_w (i := 22) (d := some 37) (v := ?_) rfl (by kernel_rfl) (by kernel_rfl) (by kernel_rfl) (fun _ _ _ h => h) (by rfl) ?_ hHeld ?_
        rotate_left
        · intro w' hSw; obtain ⟨q0⟩ := hSw; simp only [List.getElem?_toArray, List.getElem?_cons_zero, List.getElem?_cons_succ]; go_simp; try with_reducible rfl
        try simp only [Act.put, List.setIfInBounds_toArray, List.set_cons_zero, List.set_cons_succ]
        refine held_c (i := 23) (by kernel_rfl) (by rfl) (fun K hK => ?_)
        simp only [List.getElem?_toArray, List.getElem?_cons_zero, List.getElem?_cons_succ]
        go_simp
        refine hK.out _ _ trivial (fun hHeld => ?_)
        clear hK K
        try simp only [Act.put, List.setIfInBounds_toArray, List.set_cons_zero, List.set_cons_succ]
        refine wpAnyH_done (by kernel_rfl) ?_ _
        have hp1 := RowL.put (g := g) (D := D) (x := x) (E := E ++ y :: F) (w := wr) HROW.out y u HDU.out.1
        have hp2 := RowL.put (g := g) (D := D ++ y :: E) (x := y) (E := F) (by simpa using hp1) x v (by have := HDU.out.2; simp; omega)
        have hbf : Below B w ((((wr.setCell ⟨g, u * 2, none⟩ (.string (str y.1))).setCell ⟨g, u * 2 + 1, none⟩ (.string (str y.2))).setCell ⟨g, v * 2, none⟩ (.string (str x.1))).setCell ⟨g, v * 2 + 1, none⟩ (.string (str x.2))) := (((hbw.setCell (p := ⟨g, u * 2, none⟩) hg _).setCell (p := ⟨g, u * 2 + 1, none⟩) hg _).setCell (p := ⟨g, v * 2, none⟩) hg _).setCell (p := ⟨g, v * 2 + 1, none⟩) hg _
        have e3 : D ++ y :: E ++ x :: F = SwAt P X M Y S (i + 1) := by rw [HE2.out]; simp
        rw [e3] at hp2
        have HP2 := Lib.hid hp2
        clear hp1 hp2 e3 hHeld y0 y1 fy0 fy1 x0 x1 fx0 fx1
        generalize (((wr.setCell ⟨g, u * 2, none⟩ (.string (str y.1))).setCell ⟨g, u * 2 + 1, none⟩ (.string (str y.2))).setCell ⟨g, v * 2, none⟩ (.string (str x.1))).setCell ⟨g, v * 2 + 1, none⟩ (.string (str x.2)) = wz at *
        go_wp2_with fail
        go_roundw
        case rel => exact ⟨i + 1, by go_num, by omega, HP2.out.drew, hbf.drew⟩
        case measure => simp [intOf]; omega
      · refine ⟨by rfl, fun K hK => ?_⟩
        simp only [List.getElem?_toArray, List.getElem?_cons_zero, List.getElem?_cons_succ]
        go_simp
        refine hK.out _ _ trivial (fun hHeld => ?_)
        clear hK K
        try simp only [Act.put, List.setIfInBounds_toArray, List.set_cons_zero, List.set_cons_succ]
        refine held_c (i := 13) (by kernel_rfl) (by rfl) (fun K hK => ?_)
        simp only [List.getElem?_toArray, List.getElem?_cons_zero, List.getElem?_cons_succ]
        go_simp
        refine hK.out _ _ trivial (fun hHeld => ?_)
        clear hK K
        try simp only [Act.put, List.setIfInBounds_toArray, List.set_cons_zero, List.set_cons_succ]
        refine held_w (i := 20) (d := some 36) (v := ?_) rfl (by kernel_rfl) (by kernel_rfl) (by kernel_rfl) (fun _ _ _ h => h) (by rfl) ?_ hHeld ?_
        rotate_left
        · intro w' hSw; obtain ⟨q0⟩ := hSw; simp only [List.getElem?_toArray, List.getElem?_cons_zero, List.getElem?_cons_succ]; go_simp; try with_reducible rfl
        try simp only [Act.put, List.setIfInBounds_toArray, List.set_cons_zero, List.set_cons_succ]
        refine held_c (i := 21) (by kernel_rfl) (by rfl) (fun K hK => ?_)
        simp only [List.getElem?_toArray, List.getElem?_cons_zero, List.getElem?_cons_succ]
        go_simp
        refine hK.out _ _ trivial (fun hHeld => ?_)
        clear hK K
        try simp only [Act.put, List.setIfInBounds_toArray, List.set_cons_zero, List.set_cons_succ]
        refine held_w (i := 22) (d := some 37) (v := ?_) rfl (by kernel_rfl) (by kernel_rfl) (by kernel_rfl) (fun _ _ _ h => h) (by rfl) ?_ hHeld ?_
        rotate_left
        · intro w' hSw; obtain ⟨q0⟩ := hSw; simp only [List.getElem?_toArray, List.getElem?_cons_zero, List.getElem?_cons_succ]; go_simp; try with_reducible rfl
        try simp only [Act.put, List.setIfInBounds_toArray, List.set_cons_zero, List.set_cons_succ]
        refine held_c (i := 23) (by kernel_rfl) (by rfl) (fun K hK => ?_)
        simp only [List.getElem?_toArray, List.getElem?_cons_zero, List.getElem?_cons_succ]
        go_simp
        refine hK.out _ _ trivial (fun hHeld => ?_)
        clear hK K
        try simp only [Act.put, List.setIfInBounds_toArray, List.set_cons_zero, List.set_cons_succ]
        refine wpAnyH_done (by kernel_rfl) ?_ _
        have hp1 := RowL.put (g := g) (D := D) (x := x) (E := E ++ y :: F) (w := wr) HROW.out y u HDU.out.1
        have hp2 := RowL.put (g := g) (D := D ++ y :: E) (x := y) (E := F) (by simpa using hp1) x v (by have := HDU.out.2; simp; omega)
        have hbf : Below B w ((((wr.setCell ⟨g, u * 2, none⟩ (.string (str y.1))).setCell ⟨g, u * 2 + 1, none⟩ (.string (str y.2))).setCell ⟨g, v * 2, none⟩ (.string (str x.1))).setCell ⟨g, v * 2 + 1, none⟩ (.string (str x.2))) := (((hbw.setCell (p := ⟨g, u * 2, none⟩) hg _).setCell (p := ⟨g, u * 2 + 1, none⟩) hg _).setCell (p := ⟨g, v * 2, none⟩) hg _).setCell (p := ⟨g, v * 2 + 1, none⟩) hg _
        have e3 : D ++ y :: E ++ x :: F = SwAt P X M Y S (i + 1) := by rw [HE2.out]; simp
        rw [e3] at hp2
        have HP2 := Lib.hid hp2
        clear hp1 hp2 e3 hHeld y0 y1 fy0 fy1 x0 x1 fx0 fx1
        generalize (((wr.setCell ⟨g, u * 2, none⟩ (.string (str y.1))).setCell ⟨g, u * 2 + 1, none⟩ (.string (str y.2))).setCell ⟨g, v * 2, none⟩ (.string (str x.1))).setCell ⟨g, v * 2 + 1, none⟩ (.string (str x.2)) = wz at *
        go_wp2_with fail
        go_roundw
        case rel => exact ⟨i + 1, by go_num, by omega, HP2.out.drew, hbf.drew⟩
        case measure => simp [intOf]; omega
    · obtain rfl : i = n := by omega
      have HROW := Lib.hid hrow
      go_wp2_with fail
      go_end0
      refine ⟨rfl, ?_, hbw⟩
      rw [← H1.out]; exact HROW.out
set_option maxHeartbeats 2000000 in
theorem rotate_c (g B N cap a m b : Nat) (P U V S : List Lab) (w : World) (hg : B ≤ g) (hB : B ≤ w.heap.size) (ha : a = P.length) (hm : m = P.length + U.length) (hb : b = P.length + U.length + V.length) (hU : 1 ≤ U.length) (hV : 1 ≤ V.length) (hN : b ≤ N) (hn : N ≤ 4096) (hr : RowL g (P ++ U ++ V ++ S) w) (cf : Value) :
    Calls Try.prog 38 #[.slice (some ⟨g, 0, none⟩) N cap, .int .i64 (a : Int), .int .i64 (m : Int), .int .i64 (b : Int), cf] w fun e w' => e = .returned (.tuple #[]) ∧ RowL g (P ++ V ++ U ++ S) w' ∧ Below B w w' := by
  obtain ⟨T, hT⟩ : ∃ T, P ++ V ++ U ++ S = T := ⟨_, rfl⟩
  rw [hT]
  have e1 : (m : Int) - (a : Int) = ((U.length : Nat) : Int) := by omega
  have e2 : (b : Int) - (m : Int) = ((V.length : Nat) : Int) := by omega
  have H0 : Hid (∃ P' X Y S', U.length = X.length ∧ V.length = Y.length ∧ 1 ≤ X.length ∧ 1 ≤ Y.length ∧ P'.length + X.length = m ∧ m + Y.length ≤ N ∧ P' ++ Y ++ X ++ S' = T ∧ RowL g (P' ++ X ++ Y ++ S') w) := ⟨P, U, V, S, rfl, rfl, hU, hV, by omega, by omega, hT, hr⟩
  have hUl : U.length ≤ N := by omega
  have hVl : V.length ≤ N := by omega
  have hmN : m ≤ N := by omega
  clear hr hT ha hb hm
  obtain ⟨ul, hul⟩ : ∃ ul, U.length = ul := ⟨_, rfl⟩
  obtain ⟨vl, hvl⟩ : ∃ vl, V.length = vl := ⟨_, rfl⟩
  rw [hul] at e1 H0 hUl hU
  rw [hvl] at e2 H0 hVl hV
  clear hul hvl
  go_enter Try.func38, Try.ntmps38
  go_wp2_with fail
  go_loopw [10, 11] (fun c d wr => ∃ i j : Nat, c = .int .i64 i ∧ d = .int .i64 j ∧ i ≤ N ∧ j ≤ N ∧ Hid (∃ P' X Y S', i = X.length ∧ j = Y.length ∧ 1 ≤ X.length ∧ 1 ≤ Y.length ∧ P'.length + X.length = m ∧ m + Y.length ≤ N ∧ P' ++ Y ++ X ++ S' = T ∧ RowL g (P' ++ X ++ Y ++ S') wr) ∧ Below B w wr) (fun c d _ => (intOf c).toNat + (intOf d).toNat)
  case atStart => exact ⟨ul, vl, rfl, rfl, hUl, hVl, H0.out, Below.refl _ _⟩
  case round =>
    obtain ⟨i, j, rfl, rfl, hi, hj, HI, hbw⟩ := hrel
    obtain ⟨P', X, Y, S', hX, hY, hX1, hY1, hPm, hmY, hTT, hrow⟩ := HI.out
    have hsz := hbw.size
    have HT := Lib.hid hTT
    have hi1 : 1 ≤ i := by omega
    have hj1 : 1 ≤ j := by omega
    have him : i ≤ m := by omega
    have hmj : m + j ≤ N := by omega
    have HXY := Lib.hid (And.intro hX (And.intro hY hPm))
    clear hTT e1 e2 HI
    by_cases hij : i = j
    · subst hij
      have ne : ((i : Int) != (i : Int)) = false := by simp
      obtain ⟨q, hq⟩ : ∃ q, q = m - i := ⟨_, rfl⟩
      have eq1 : (m : Int) - (i : Int) = (q : Int) := by omega
      have sw := fun cf => swapRange_c g B N cap q m i P' X [] Y S' wr hg (by omega) (by simp; omega) hX.symm hY.symm (by simp; omega) hn (by simpa using hrow) cf
      clear hX hY hX1 hY1 hPm hmY hrow hq
      go_wp2_with (go_at_call 39; refine (sw _).mono ?_; rintro e w2 ⟨rfl, hr2, hb2⟩)
      go_end0
      refine ⟨rfl, ?_, hbw.trans hb2⟩
      rw [← HT.out]; simpa using hr2
    · have ne : ((i : Int) != (j : Int)) = true := by simp; omega
      by_cases hgt : j < i
      · have hgt' : (j : Int) < (i : Int) := by omega
        obtain ⟨q, hq⟩ : ∃ q, q = m - i := ⟨_, rfl⟩
        have eq1 : (m : Int) - (i : Int) = (q : Int) := by omega
        obtain ⟨d, hd⟩ : ∃ d, d = i - j := ⟨_, rfl⟩
        have ed : (i : Int) - (j : Int) = (d : Int) := by omega
        have hXs : X = X.take j ++ X.drop j := (List.take_append_drop j X).symm
        have hTT2 : P' ++ Y ++ (X.take j ++ X.drop j) ++ S' = T := by rw [List.take_append_drop]; exact HT.out
        have l1 : (X.take j).length = j := by rw [List.length_take]; omega
        have l2 : (X.drop j).length = d := by rw [List.length_drop]; omega
        have sw := fun cf => swapRange_c g B N cap q m j P' (X.take j) (X.drop j) Y S' wr hg (by omega) (by rw [l2]; omega) l1 hY.symm (by rw [l2]; omega) hn (by rw [hXs] at hrow; simpa using hrow) cf
        have HN : Hid (∀ W, RowL g (P' ++ Y ++ X.drop j ++ X.take j ++ S') W → ∃ P' X Y S', d = X.length ∧ j = Y.length ∧ 1 ≤ X.length ∧ 1 ≤ Y.length ∧ P'.length + X.length = m ∧ m + Y.length ≤ N ∧ P' ++ Y ++ X ++ S' = T ∧ RowL g (P' ++ X ++ Y ++ S') W) := fun W hW => ⟨P' ++ Y, X.drop j, X.take j, S', l2.symm, l1.symm, by omega, by omega, by simp; omega, by omega, by rw [← hTT2]; simp, hW⟩
        clear hX hY hX1 hY1 hPm hmY hrow hq hd hXs l1 l2 hTT2
        go_wp2_with (go_at_call 39; refine (sw _).mono ?_; rintro e w2 ⟨rfl, hr2, hb2⟩)
        go_roundw
        case rel => exact ⟨d, j, rfl, rfl, by omega, hj, HN.out _ hr2, hbw.trans hb2⟩
        case measure => simp [intOf]; omega
      · have hgt' : ¬ (j : Int) < (i : Int) := by omega
        obtain ⟨q, hq⟩ : ∃ q, q = m - i := ⟨_, rfl⟩
        have eq1 : (m : Int) - (i : Int) = (q : Int) := by omega
        obtain ⟨d, hd⟩ : ∃ d, d = j - i := ⟨_, rfl⟩
        have ed : (j : Int) - (i : Int) = (d : Int) := by omega
        obtain ⟨r, hr'⟩ : ∃ r, r = m + j - i := ⟨_, rfl⟩
        have er : (m : Int) + (j : Int) - (i : Int) = (r : Int) := by omega
        have hYs : Y = Y.take d ++ Y.drop d := (List.take_append_drop d Y).symm
        have hTT2 : P' ++ (Y.take d ++ Y.drop d) ++ X ++ S' = T := by rw [List.take_append_drop]; exact HT.out
        have l1 : (Y.take d).length = d := by rw [List.length_take]; omega
        have l2 : (Y.drop d).length = i := by rw [List.length_drop]; omega
        have sw := fun cf => swapRange_c g B N cap q r i P' X (Y.take d) (Y.drop d) S' wr hg (by omega) (by rw [l1]; omega) hX.symm l2 (by rw [l1]; omega) hn (by rw [hYs] at hrow; simpa using hrow) cf
        have HN : Hid (∀ W, RowL g (P' ++ Y.drop d ++ Y.take d ++ X ++ S') W → ∃ P' X Y S', i = X.length ∧ d = Y.length ∧ 1 ≤ X.length ∧ 1 ≤ Y.length ∧ P'.length + X.length = m ∧ m + Y.length ≤ N ∧ P' ++ Y ++ X ++ S' = T ∧ RowL g (P' ++ X ++ Y ++ S') W) := fun W hW => ⟨P', Y.drop d, Y.take d, X ++ S', l2.symm, l1.symm, by omega, by omega, by omega, by omega, by rw [← hTT2]; simp, by simpa using hW⟩
        clear hX hY hX1 hY1 hPm hmY hrow hq hd hYs l1 l2 hr' hTT2
        go_wp2_with (go_at_call 39; refine (sw _).mono ?_; rintro e w2 ⟨rfl, hr2, hb2⟩)
        go_roundw
        case rel => exact ⟨i, d, rfl, rfl, hi, by omega, HN.out _ hr2, hbw.trans hb2⟩
        case measure => simp [intOf]; omega
end Go.Proofs.Ytopnnhjfcfhihaa
