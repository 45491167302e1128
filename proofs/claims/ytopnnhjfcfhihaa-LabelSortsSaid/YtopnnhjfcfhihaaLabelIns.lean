/-
  Layer 4 (label): the insertion sort of a piece of a row of labels.
-/
import Derived.Test.YtopnnhjfcfhihaaLabelSrt
namespace Go.Proofs.Ytopnnhjfcfhihaa
open Go.RowKit Go.Deep
attribute [local go_sem] str_size str_append str_toList str_get str_extract
set_option linter.unusedVariables false
set_option linter.unusedSimpArgs false
/-- What stands of the outer loop: the first i places behind P are in order. -/
def InsAt (P A S : List Lab) (i : Nat) (l : List Lab) : Prop := ∃ C R, l = P ++ C ++ R ++ S ∧ P.length + C.length = i ∧ SortedN C ∧ Stb (C ++ R) A ∧ C.length + R.length = A.length
/-- What stands of the inner loop: x has come to place j. -/
def InsIn (P A S : List Lab) (i j : Nat) (l : List Lab) : Prop := ∃ C1 x C2 R, l = P ++ C1 ++ x :: (C2 ++ (R ++ S)) ∧ P.length + C1.length = j ∧ P.length + C1.length + C2.length = i ∧ SortedN (C1 ++ C2) ∧ (∀ z ∈ C2, ltN x z = true) ∧ Stb (C1 ++ x :: C2 ++ R) A ∧ C1.length + C2.length + 1 + R.length = A.length
theorem InsAt.start {P A S : List Lab} {i : Nat} {l : List Lab} (h : InsAt P A S i l) (hi : i < P.length + A.length) : InsIn P A S i i l := by
  obtain ⟨C, R, h1, h2, h3, h4, h5⟩ := h
  cases R with
  | nil => simp at h5; omega
  | cons x R => exact ⟨C, x, [], R, by rw [h1]; simp, h2, by simpa using h2, by simpa using h3, by simp, by simpa using h4, by simp at h5 ⊢; omega⟩
theorem InsIn.done {P A S : List Lab} {i j : Nat} {l : List Lab} (h : InsIn P A S i j l) (hj : j = P.length ∨ ∃ D y x E, l = D ++ y :: x :: E ∧ D.length + 1 = j ∧ ltN x y = false) : InsAt P A S (i + 1) l := by
  obtain ⟨C1, x, C2, R, h1, h2, h3, h4, h5, h6, h7⟩ := h
  refine ⟨C1 ++ x :: C2, R, by rw [h1]; simp, by simp; omega, ?_, by simpa using h6, by simp; omega⟩
  have hle : ∀ z ∈ C1, ltN x z = false := by
    rcases hj with hj | ⟨D, y, x', E, e, hD, hlt⟩
    · have : C1 = [] := List.eq_nil_of_length_eq_zero (by omega)
      subst this; simp
    · intro z hz
      obtain ⟨C0, c, rfl⟩ : ∃ C0 c, C1 = C0 ++ [c] := by
        have hne : C1 ≠ [] := by rintro rfl; simp at hz
        exact ⟨C1.dropLast, C1.getLast hne, (List.dropLast_concat_getLast hne).symm⟩
      have e2 : D ++ y :: x' :: E = (P ++ C0) ++ c :: x :: (C2 ++ (R ++ S)) := by rw [← e, h1]; simp
      have hlen : D.length = (P ++ C0).length := by simp at h2 ⊢; omega
      obtain ⟨_, e3⟩ := List.append_inj e2 hlen
      injection e3 with e3 e4
      injection e4 with e4 _
      subst e3 e4
      rcases List.mem_append.1 hz with hz | hz
      · have hs := (List.pairwise_append.1 ((List.pairwise_append.1 h4).1)).2.2 z hz y (by simp)
        exact leN_trans hs hlt
      · simp at hz; subst hz; exact hlt
  obtain ⟨s1, s2, s3⟩ := List.pairwise_append.1 h4
  refine List.pairwise_append.2 ⟨s1, List.pairwise_cons.2 ⟨fun z hz => ltN_asymm (h5 z hz), s2⟩, fun a ha b hb => ?_⟩
  rcases List.mem_cons.1 hb with rfl | hb
  · exact hle a ha
  · exact s3 a ha b hb
theorem InsIn.step {P A S D E : List Lab} {i k : Nat} {x y : Lab} (h : InsIn P A S i (k + 1) (D ++ y :: x :: E)) (hD : D.length = k) (hk : P.length ≤ k) (hlt : ltN x y = true) : InsIn P A S i k (D ++ x :: y :: E) := by
  obtain ⟨C1, x', C2, R, h1, h2, h3, h4, h5, h6, h7⟩ := h
  obtain ⟨C0, c, rfl⟩ : ∃ C0 c, C1 = C0 ++ [c] := by
    have hne : C1 ≠ [] := by rintro rfl; simp at h2; omega
    exact ⟨C1.dropLast, C1.getLast hne, (List.dropLast_concat_getLast hne).symm⟩
  have e2 : D ++ y :: x :: E = (P ++ C0) ++ c :: x' :: (C2 ++ (R ++ S)) := by rw [h1]; simp
  have hlen : D.length = (P ++ C0).length := by simp at h2 ⊢; omega
  obtain ⟨e5, e3⟩ := List.append_inj e2 hlen
  injection e3 with e3 e4
  injection e4 with e4 e6
  subst e3 e4 e5 e6
  refine ⟨C0, x, y :: C2, R, by simp, by simp at h2 ⊢; omega, by simp at h2 h3 ⊢; omega, by simpa using h4, ?_, ?_, by simp at h7 ⊢; omega⟩
  · intro z hz
    rcases List.mem_cons.1 hz with rfl | hz
    · exact hlt
    · exact h5 z hz
  · have hsw : Stb (C0 ++ [x, y] ++ (C2 ++ R)) (C0 ++ [y, x] ++ (C2 ++ R)) := Stb.append (Stb.append (Stb.refl C0) (Stb.two (ltN_ne hlt))) (Stb.refl _)
    have := hsw.trans (show Stb (C0 ++ [y, x] ++ (C2 ++ R)) A by simpa using h6)
    simpa using this
/-- Two neighbours of the inner loop. -/
theorem InsIn.two {P A S : List Lab} {i k : Nat} {l : List Lab} (h : InsIn P A S i (k + 1) l) (hk : P.length ≤ k) : ∃ D y x E, l = D ++ y :: x :: E ∧ D.length = k := by
  obtain ⟨C1, x', C2, R, h1, h2, h3, h4, h5, h6, h7⟩ := h
  obtain ⟨C0, c, rfl⟩ : ∃ C0 c, C1 = C0 ++ [c] := by
    have hne : C1 ≠ [] := by rintro rfl; simp at h2; omega
    exact ⟨C1.dropLast, C1.getLast hne, (List.dropLast_concat_getLast hne).symm⟩
  exact ⟨P ++ C0, c, x', C2 ++ (R ++ S), by rw [h1]; simp, by simp at h2 ⊢; omega⟩
theorem InsIn.length {P A S : List Lab} {i j : Nat} {l : List Lab} (h : InsIn P A S i j l) : l.length = P.length + A.length + S.length := by
  obtain ⟨C1, x', C2, R, h1, h2, h3, h4, h5, h6, h7⟩ := h
  rw [h1]; simp; omega
theorem InsIn.place {P A S : List Lab} {i j : Nat} {l : List Lab} (h : InsIn P A S i j l) : P.length ≤ j ∧ j ≤ i ∧ i < P.length + A.length := by
  obtain ⟨C1, x', C2, R, h1, h2, h3, h4, h5, h6, h7⟩ := h
  omega
theorem InsAt.end {P A S : List Lab} {i : Nat} {l : List Lab} (h : InsAt P A S i l) (hi : P.length + A.length ≤ i) : ∃ C, l = P ++ C ++ S ∧ SortedN C ∧ Stb C A ∧ C.length = A.length := by
  obtain ⟨C, R, h1, h2, h3, h4, h5⟩ := h
  have : R = [] := List.eq_nil_of_length_eq_zero (by omega)
  subst this
  exact ⟨C, by simpa using h1, h3, by simpa using h4, by simpa using h5⟩
theorem InsAt.place {P A S : List Lab} {i : Nat} {l : List Lab} (h : InsAt P A S i l) : i ≤ P.length + A.length := by
  obtain ⟨C, R, h1, h2, h3, h4, h5⟩ := h
  omega
set_option maxHeartbeats 4000000 in
theorem insertion_c (g B N cap : Nat) (P A S : List Lab) (w : World) (hg : B ≤ g) (hB : B ≤ w.heap.size) (hN : N = P.length + A.length + S.length) (hcap : N ≤ cap) (hn : N ≤ 4096) (hr : RowL g (P ++ A ++ S) w) :
    Calls Try.prog 33 #[.slice (some ⟨g, 0, none⟩) N cap, .int .i64 (P.length : Nat), .int .i64 ((P.length + A.length : Nat) : Nat), .func (.func 20) #[] #[]] w fun e w' => e = .returned (.tuple #[]) ∧ (∃ C, RowL g (P ++ C ++ S) w' ∧ SortedN C ∧ Stb C A ∧ C.length = A.length) ∧ Below B w w' := by
  obtain ⟨p, hp⟩ : ∃ p, P.length = p := ⟨_, rfl⟩
  obtain ⟨q, hq⟩ : ∃ q, P.length + A.length = q := ⟨_, rfl⟩
  rw [hq, hp]
  have hpq : p ≤ q := by omega
  have hqN : q ≤ N := by omega
  have HP := Lib.hid (And.intro hp hq)
  have HR0 := Lib.hid hr
  have HN := Lib.hid hN
  clear hr hp hq hN
  go_enter Try.func33, Try.ntmps33
  go_wp2_with fail
  go_loopw [8] (fun c wr => ∃ (i : Nat) (l : List Lab), c = .int .i64 i ∧ i ≤ q + 1 ∧ RowL g l wr ∧ Hid ((A ≠ [] → InsAt P A S i l) ∧ (A = [] → l = P ++ A ++ S ∧ q < i)) ∧ Below B w wr) (fun c _ => q + 1 - (intOf c).toNat)
  case atStart =>
    refine ⟨p + 1, P ++ A ++ S, by simp, by omega, HR0.out, ⟨?_, ?_⟩, Below.refl _ _⟩
    · intro hA
      obtain ⟨x, r, rfl⟩ : ∃ x r, A = x :: r := by cases A with | nil => exact absurd rfl hA | cons x r => exact ⟨x, r, rfl⟩
      exact ⟨[x], r, by simp, by simp; have := HP.out.1; omega, by simp [SortedN], Stb.refl _, by simp; omega⟩
    · intro hA
      refine ⟨rfl, ?_⟩
      have h := HP.out
      rw [hA] at h
      simp at h
      omega
  case round =>
    obtain ⟨i, l, rfl, hi, hrow, HI, hb⟩ := hrel
    by_cases hlt : i < q
    · have hA : A ≠ [] := fun e => by have := (HI.out.2 e).2; omega
      have hin := (HI.out.1 hA).start (by have := HP.out.2; omega)
      go_wp2_with fail
      obtain ⟨wo, rfl⟩ : ∃ wo : World, wo = wr := ⟨_, rfl⟩
      go_loopw [9] (fun c wr => ∃ (j : Nat) (l : List Lab), c = .int .i64 j ∧ p ≤ j ∧ j ≤ i ∧ RowL g l wr ∧ Hid (InsIn P A S i j l) ∧ Below B w wr) (fun c _ => (intOf c).toNat)
      case atStart => exact ⟨i, l, rfl, by have := hin.place; have := HP.out.1; omega, by omega, hrow, hin, hb⟩
      case round =>
        obtain ⟨j, l2, rfl, hpj, hji, hrow2, HJ, hb2⟩ := hrel
        by_cases hj : p < j
        · obtain ⟨k, rfl⟩ : ∃ k, j = k + 1 := ⟨j - 1, by omega⟩
          obtain ⟨D, y, x, E, rfl, hD⟩ := HJ.out.two (by have := HP.out.1; omega)
          have hkN : k + 1 < N := by omega
          obtain ⟨y0, y1, fy0, fy1⟩ := hrow2.get (D := D) (x := y) (E := x :: E) k hD.symm
          obtain ⟨x0, x1, fx0, fx1⟩ := RowL.get (g := g) (D := D ++ [y]) (x := x) (E := E) (w := wr) (by simpa using hrow2) (k + 1) (by simp; omega)
          have hS : ∀ W, Below wr.heap.size wr W → W.cell? ⟨g, k * 2, none⟩ = some (.string (str y.1)) ∧ W.cell? ⟨g, k * 2 + 1, none⟩ = some (.string (str y.2)) ∧ W.cell? ⟨g, (k + 1) * 2, none⟩ = some (.string (str x.1)) ∧ W.cell? ⟨g, (k + 1) * 2 + 1, none⟩ = some (.string (str x.2)) ∧ Below wr.heap.size wr W := by
            intro W hW
            have hrW := hrow2.below hW
            obtain ⟨y0, y1, fy0, fy1⟩ := hrW.get (D := D) (x := y) (E := x :: E) k hD.symm
            obtain ⟨x0, x1, fx0, fx1⟩ := RowL.get (g := g) (D := D ++ [y]) (x := x) (E := E) (w := W) (by simpa using hrW) (k + 1) (by simp; omega)
            exact ⟨y0, y1, x0, x1, hW⟩
          have HS := Lib.hid hS
          have hS0 := hS wr (Below.refl _ _)
          have cc := fun W => cmp_c x y W
          have hgt : (p : Int) < (k : Int) + 1 := by omega
          obtain ⟨c, hc⟩ : ∃ c, cmpN x y = c := ⟨_, rfl⟩
          rw [hc] at cc
          have HC := Lib.hid hc
          have HROW := Lib.hid hrow2
          have hk1 : ((k + 1 : Nat) : Int) = (k : Int) + 1 := by omega
          have i1 : (0 : Int) ≤ (k : Int) + 1 ∧ (k : Int) + 1 < (N : Int) := by omega
          have i2 : (0 : Int) ≤ (k : Int) ∧ (k : Int) < (N : Int) := by omega
          have i3 : IntKind.i64.wrap (k : Int) = (k : Int) := IntWalk.i64_in _ (by omega)
          clear hS hc hrow2 y0 y1 fy0 fy1 x0 x1 fx0 fx1
          go_wp2_with fail
          refine wp_region_held_drew (S := fun W => W.cell? ⟨g, k * 2, none⟩ = some (.string (str y.1)) ∧ W.cell? ⟨g, k * 2 + 1, none⟩ = some (.string (str y.2)) ∧ W.cell? ⟨g, (k + 1) * 2, none⟩ = some (.string (str x.1)) ∧ W.cell? ⟨g, (k + 1) * 2 + 1, none⟩ = some (.string (str x.2)) ∧ Below wr.heap.size wr W) (by kernel_rfl) (HS.out _ ((Below.refl _ _).drew)) (fun hHeld => ?_)
          refine held_w (i := 0) (d := some 18) (v := ?_) rfl (by kernel_rfl) (by kernel_rfl) (by kernel_rfl) (fun _ _ _ h => h) (by rfl) ?_ hHeld ?_
          rotate_left
          · intro w' hSw; obtain ⟨q0, q1, q2, q3, q4⟩ := hSw; simp only [List.getElem?_toArray, List.getElem?_cons_zero, List.getElem?_cons_succ]; go_simp; try with_reducible rfl
          try simp only [Act.put, List.setIfInBounds_toArray, List.set_cons_zero, List.set_cons_succ]
          refine held_w (i := 1) (d := some 19) (v := ?_) rfl (by kernel_rfl) (by kernel_rfl) (by kernel_rfl) (fun _ _ _ h => h) (by rfl) ?_ hHeld ?_
          rotate_left
          · intro w' hSw; obtain ⟨q0, q1, q2, q3, q4⟩ := hSw; simp only [List.getElem?_toArray, List.getElem?_cons_zero, List.getElem?_cons_succ]; go_simp; try with_reducible rfl
          try simp only [Act.put, List.setIfInBounds_toArray, List.set_cons_zero, List.set_cons_succ]
          refine held_w (i := 2) (d := some 20) (v := ?_) rfl (by kernel_rfl) (by kernel_rfl) (by kernel_rfl) (fun _ _ _ h => h) (by rfl) ?_ hHeld ?_
          rotate_left
          · intro w' hSw; obtain ⟨q0, q1, q2, q3, q4⟩ := hSw; simp only [List.getElem?_toArray, List.getElem?_cons_zero, List.getElem?_cons_succ]; go_simp; try with_reducible rfl
          try simp only [Act.put, List.setIfInBounds_toArray, List.set_cons_zero, List.set_cons_succ]
          refine held_w (i := 3) (d := some 21) (v := ?_) rfl (by kernel_rfl) (by kernel_rfl) (by kernel_rfl) (fun _ _ _ h => h) (by rfl) ?_ hHeld ?_
          rotate_left
          · intro w' hSw; obtain ⟨q0, q1, q2, q3, q4⟩ := hSw; simp only [List.getElem?_toArray, List.getElem?_cons_zero, List.getElem?_cons_succ]; go_simp; try with_reducible rfl
          try simp only [Act.put, List.setIfInBounds_toArray, List.set_cons_zero, List.set_cons_succ]
          refine held_w (i := 4) (d := some 22) (v := ?_) rfl (by kernel_rfl) (by kernel_rfl) (by kernel_rfl) (fun _ _ _ h => h) (by rfl) ?_ hHeld ?_
          rotate_left
          · intro w' hSw; obtain ⟨q0, q1, q2, q3, q4⟩ := hSw; simp only [List.getElem?_toArray, List.getElem?_cons_zero, List.getElem?_cons_succ]; go_simp; try with_reducible rfl
          try simp only [Act.put, List.setIfInBounds_toArray, List.set_cons_zero, List.set_cons_succ]
          refine held_w (i := 5) (d := some 23) (v := ?_) rfl (by kernel_rfl) (by kernel_rfl) (by kernel_rfl) (fun _ _ _ h => h) (by rfl) ?_ hHeld ?_
          rotate_left
          · intro w' hSw; obtain ⟨q0, q1, q2, q3, q4⟩ := hSw; simp only [List.getElem?_toArray, List.getElem?_cons_zero, List.getElem?_cons_succ]; go_simp; try with_reducible rfl
          try simp only [Act.put, List.setIfInBounds_toArray, List.set_cons_zero, List.set_cons_succ]
          refine held_w (i := 6) (d := some 24) (v := ?_) rfl (by kernel_rfl) (by kernel_rfl) (by kernel_rfl) (fun _ _ _ h => h) (by rfl) ?_ hHeld ?_
          rotate_left
          · intro w' hSw; obtain ⟨q0, q1, q2, q3, q4⟩ := hSw; simp only [List.getElem?_toArray, List.getElem?_cons_zero, List.getElem?_cons_succ]; go_simp; try with_reducible rfl
          try simp only [Act.put, List.setIfInBounds_toArray, List.set_cons_zero, List.set_cons_succ]
          refine held_w (i := 7) (d := some 25) (v := ?_) rfl (by kernel_rfl) (by kernel_rfl) (by kernel_rfl) (fun _ _ _ h => h) (by rfl) ?_ hHeld ?_
          rotate_left
          · intro w' hSw; obtain ⟨q0, q1, q2, q3, q4⟩ := hSw; simp only [List.getElem?_toArray, List.getElem?_cons_zero, List.getElem?_cons_succ]; go_simp; try with_reducible rfl
          try simp only [Act.put, List.setIfInBounds_toArray, List.set_cons_zero, List.set_cons_succ]
          refine held_w (i := 8) (d := some 26) (v := ?_) rfl (by kernel_rfl) (by kernel_rfl) (by kernel_rfl) (fun _ _ _ h => h) (by rfl) ?_ hHeld ?_
          rotate_left
          · intro w' hSw; obtain ⟨q0, q1, q2, q3, q4⟩ := hSw; simp only [List.getElem?_toArray, List.getElem?_cons_zero, List.getElem?_cons_succ]; go_simp; try with_reducible rfl
          try simp only [Act.put, List.setIfInBounds_toArray, List.set_cons_zero, List.set_cons_succ]
          refine held_w (i := 9) (d := some 27) (v := ?_) rfl (by kernel_rfl) (by kernel_rfl) (by kernel_rfl) (fun _ _ _ h => h) (by rfl) ?_ hHeld ?_
          rotate_left
          · intro w' hSw; obtain ⟨q0, q1, q2, q3, q4⟩ := hSw; simp only [List.getElem?_toArray, List.getElem?_cons_zero, List.getElem?_cons_succ]; go_simp; try with_reducible rfl
          try simp only [Act.put, List.setIfInBounds_toArray, List.set_cons_zero, List.set_cons_succ]
          refine held_w (i := 10) (d := some 28) (v := ?_) rfl (by kernel_rfl) (by kernel_rfl) (by kernel_rfl) (fun _ _ _ h => h) (by rfl) ?_ hHeld ?_
          rotate_left
          · intro w' hSw; obtain ⟨q0, q1, q2, q3, q4⟩ := hSw; simp only [List.getElem?_toArray, List.getElem?_cons_zero, List.getElem?_cons_succ]; go_simp; try with_reducible rfl
          try simp only [Act.put, List.setIfInBounds_toArray, List.set_cons_zero, List.set_cons_succ]
          refine held_w (i := 11) (d := some 29) (v := ?_) rfl (by kernel_rfl) (by kernel_rfl) (by kernel_rfl) (fun _ _ _ h => h) (by rfl) ?_ hHeld ?_
          rotate_left
          · intro w' hSw; obtain ⟨q0, q1, q2, q3, q4⟩ := hSw; simp only [List.getElem?_toArray, List.getElem?_cons_zero, List.getElem?_cons_succ]; go_simp; try with_reducible rfl
          try simp only [Act.put, List.setIfInBounds_toArray, List.set_cons_zero, List.set_cons_succ]
          refine held_w (i := 12) (d := some 30) (v := ?_) rfl (by kernel_rfl) (by kernel_rfl) (by kernel_rfl) (fun _ _ _ h => h) (by rfl) ?_ hHeld ?_
          rotate_left
          · intro w' hSw; obtain ⟨q0, q1, q2, q3, q4⟩ := hSw; simp only [List.getElem?_toArray, List.getElem?_cons_zero, List.getElem?_cons_succ]; go_simp; try with_reducible rfl
          try simp only [Act.put, List.setIfInBounds_toArray, List.set_cons_zero, List.set_cons_succ]
          refine held_w (i := 13) (d := some 31) (v := ?_) rfl (by kernel_rfl) (by kernel_rfl) (by kernel_rfl) (fun _ _ _ h => h) (by rfl) ?_ hHeld ?_
          rotate_left
          · intro w' hSw; obtain ⟨q0, q1, q2, q3, q4⟩ := hSw; simp only [List.getElem?_toArray, List.getElem?_cons_zero, List.getElem?_cons_succ]; go_simp; try with_reducible rfl
          try simp only [Act.put, List.setIfInBounds_toArray, List.set_cons_zero, List.set_cons_succ]
          refine held_c (i := 14) (by kernel_rfl) (by rfl) (fun K hK => ?_)
          simp only [List.getElem?_toArray, List.getElem?_cons_zero, List.getElem?_cons_succ]
          go_simp
          refine (cc _).mono ?_
          rintro e w3 ⟨rfl, hb3⟩
          have hb4 := hHeld.2.2.2.2.trans (hb3.mono hHeld.2.2.2.2.size)
          refine hK.out _ _ (HS.out _ hb4) (fun hHeld => ?_)
          clear hK hb3
          try simp only [Act.put, List.setIfInBounds_toArray, List.set_cons_zero, List.set_cons_succ]
          refine held_w (i := 15) (d := some 33) (v := ?_) rfl (by kernel_rfl) (by kernel_rfl) (by kernel_rfl) (fun _ _ _ h => h) (by rfl) ?_ hHeld ?_
          rotate_left
          · intro w' hSw; obtain ⟨q0, q1, q2, q3, q4⟩ := hSw; simp only [List.getElem?_toArray, List.getElem?_cons_zero, List.getElem?_cons_succ]; go_simp; try with_reducible rfl
          try simp only [Act.put, List.setIfInBounds_toArray, List.set_cons_zero, List.set_cons_succ]
          refine held_w (i := 16) (d := some 34) (v := ?_) rfl (by kernel_rfl) (by kernel_rfl) (by kernel_rfl) (fun _ _ _ h => h) (by rfl) ?_ hHeld ?_
          rotate_left
          · intro w' hSw; obtain ⟨q0, q1, q2, q3, q4⟩ := hSw; simp only [List.getElem?_toArray, List.getElem?_cons_zero, List.getElem?_cons_succ]; go_simp; try with_reducible rfl
          try simp only [Act.put, List.setIfInBounds_toArray, List.set_cons_zero, List.set_cons_succ]
          refine wpAnyH_done (by kernel_rfl) ?_ _
          skip
          have hbw := hHeld.2.2.2.2
          have hrW := HROW.out.below hbw
          have hbB : Below B w w3 := hb2.trans (hbw.mono (by have := hb2.size; omega))
          obtain ⟨y0, y1, fy0, fy1⟩ := hrW.get (D := D) (x := y) (E := x :: E) k hD.symm
          obtain ⟨x0, x1, fx0, fx1⟩ := RowL.get (g := g) (D := D ++ [y]) (x := x) (E := E) (by simpa using hrW) (k + 1) (by simp; omega)
          have HRW := Lib.hid hrW
          clear hHeld hrW hb4 hbw
          cases hlt2 : ltN x y with
          | false =>
            have hcn : ¬ c < 0 := by rw [← HC.out]; exact cmpN_ge hlt2
            have hfin := Lib.hid (HJ.out.done (.inr ⟨D, y, x, E, rfl, by omega, hlt2⟩))
            clear hlt2 y0 y1 fy0 fy1 x0 x1 fx0 fx1
            go_wp2_with fail
            go_roundw
            case rel => exact ⟨i + 1, D ++ y :: x :: E, by go_num, by omega, HRW.out, ⟨fun _ => hfin.out, fun e => absurd e hA⟩, hbB⟩
            case measure => simp [intOf]; omega
          | true =>
            have hcl : c < 0 := by rw [← HC.out]; exact cmpN_lt hlt2
            have hnext := Lib.hid (HJ.out.step hD (by have := HP.out.1; omega) hlt2)
            clear hlt2
            go_wp2_with fail
            refine wp_region_held_drew (S := fun _ => True) (by kernel_rfl) trivial (fun hHeld => ?_)
            refine held_w (i := 0) (d := some 37) (v := ?_) rfl (by kernel_rfl) (by kernel_rfl) (by kernel_rfl) (fun _ _ _ h => h) (by rfl) ?_ hHeld ?_
            rotate_left
            · intro w' hSw; obtain ⟨q0⟩ := hSw; simp only [List.getElem?_toArray, List.getElem?_cons_zero, List.getElem?_cons_succ]; go_simp; try with_reducible rfl
            try simp only [Act.put, List.setIfInBounds_toArray, List.set_cons_zero, List.set_cons_succ]
            refine held_w (i := 1) (d := some 38) (v := ?_) rfl (by kernel_rfl) (by kernel_rfl) (by kernel_rfl) (fun _ _ _ h => h) (by rfl) ?_ hHeld ?_
            rotate_left
            · intro w' hSw; obtain ⟨q0⟩ := hSw; simp only [List.getElem?_toArray, List.getElem?_cons_zero, List.getElem?_cons_succ]; go_simp; try with_reducible rfl
            try simp only [Act.put, List.setIfInBounds_toArray, List.set_cons_zero, List.set_cons_succ]
            refine held_w (i := 2) (d := some 39) (v := ?_) rfl (by kernel_rfl) (by kernel_rfl) (by kernel_rfl) (fun _ _ _ h => h) (by rfl) ?_ hHeld ?_
            rotate_left
            · intro w' hSw; obtain ⟨q0⟩ := hSw; simp only [List.getElem?_toArray, List.getElem?_cons_zero, List.getElem?_cons_succ]; go_simp; try with_reducible rfl
            try simp only [Act.put, List.setIfInBounds_toArray, List.set_cons_zero, List.set_cons_succ]
            refine held_w (i := 3) (d := some 40) (v := ?_) rfl (by kernel_rfl) (by kernel_rfl) (by kernel_rfl) (fun _ _ _ h => h) (by rfl) ?_ hHeld ?_
            rotate_left
            · intro w' hSw; obtain ⟨q0⟩ := hSw; simp only [List.getElem?_toArray, List.getElem?_cons_zero, List.getElem?_cons_succ]; go_simp; try with_reducible rfl
            try simp only [Act.put, List.setIfInBounds_toArray, List.set_cons_zero, List.set_cons_succ]
            refine held_w (i := 4) (d := some 41) (v := ?_) rfl (by kernel_rfl) (by kernel_rfl) (by kernel_rfl) (fun _ _ _ h => h) (by rfl) ?_ hHeld ?_
            rotate_left
            · intro w' hSw; obtain ⟨q0⟩ := hSw; simp only [List.getElem?_toArray, List.getElem?_cons_zero, List.getElem?_cons_succ]; go_simp; try with_reducible rfl
            try simp only [Act.put, List.setIfInBounds_toArray, List.set_cons_zero, List.set_cons_succ]
            refine held_w (i := 5) (d := some 42) (v := ?_) rfl (by kernel_rfl) (by kernel_rfl) (by kernel_rfl) (fun _ _ _ h => h) (by rfl) ?_ hHeld ?_
            rotate_left
            · intro w' hSw; obtain ⟨q0⟩ := hSw; simp only [List.getElem?_toArray, List.getElem?_cons_zero, List.getElem?_cons_succ]; go_simp; try with_reducible rfl
            try simp only [Act.put, List.setIfInBounds_toArray, List.set_cons_zero, List.set_cons_succ]
            refine held_w (i := 6) (d := some 43) (v := ?_) rfl (by kernel_rfl) (by kernel_rfl) (by kernel_rfl) (fun _ _ _ h => h) (by rfl) ?_ hHeld ?_
            rotate_left
            · intro w' hSw; obtain ⟨q0⟩ := hSw; simp only [List.getElem?_toArray, List.getElem?_cons_zero, List.getElem?_cons_succ]; go_simp; try with_reducible rfl
            try simp only [Act.put, List.setIfInBounds_toArray, List.set_cons_zero, List.set_cons_succ]
            refine held_w (i := 7) (d := some 44) (v := ?_) rfl (by kernel_rfl) (by kernel_rfl) (by kernel_rfl) (fun _ _ _ h => h) (by rfl) ?_ hHeld ?_
            rotate_left
            · intro w' hSw; obtain ⟨q0⟩ := hSw; simp only [List.getElem?_toArray, List.getElem?_cons_zero, List.getElem?_cons_succ]; go_simp; try with_reducible rfl
            try simp only [Act.put, List.setIfInBounds_toArray, List.set_cons_zero, List.set_cons_succ]
            refine held_w (i := 8) (d := some 45) (v := ?_) rfl (by kernel_rfl) (by kernel_rfl) (by kernel_rfl) (fun _ _ _ h => h) (by rfl) ?_ hHeld ?_
            rotate_left
            · intro w' hSw; obtain ⟨q0⟩ := hSw; simp only [List.getElem?_toArray, List.getElem?_cons_zero, List.getElem?_cons_succ]; go_simp; try with_reducible rfl
            try simp only [Act.put, List.setIfInBounds_toArray, List.set_cons_zero, List.set_cons_succ]
            refine held_w (i := 10) (d := some 47) (v := ?_) rfl (by kernel_rfl) (by kernel_rfl) (by kernel_rfl) (fun _ _ _ h => h) (by rfl) ?_ hHeld ?_
            rotate_left
            · intro w' hSw; obtain ⟨q0⟩ := hSw; simp only [List.getElem?_toArray, List.getElem?_cons_zero, List.getElem?_cons_succ]; go_simp; try with_reducible rfl
            try simp only [Act.put, List.setIfInBounds_toArray, List.set_cons_zero, List.set_cons_succ]
            refine held_w (i := 11) (d := some 48) (v := ?_) rfl (by kernel_rfl) (by kernel_rfl) (by kernel_rfl) (fun _ _ _ h => h) (by rfl) ?_ hHeld ?_
            rotate_left
            · intro w' hSw; obtain ⟨q0⟩ := hSw; simp only [List.getElem?_toArray, List.getElem?_cons_zero, List.getElem?_cons_succ]; go_simp; try with_reducible rfl
            try simp only [Act.put, List.setIfInBounds_toArray, List.set_cons_zero, List.set_cons_succ]
            refine held_w (i := 12) (d := some 49) (v := ?_) rfl (by kernel_rfl) (by kernel_rfl) (by kernel_rfl) (fun _ _ _ h => h) (by rfl) ?_ hHeld ?_
            rotate_left
            · intro w' hSw; obtain ⟨q0⟩ := hSw; simp only [List.getElem?_toArray, List.getElem?_cons_zero, List.getElem?_cons_succ]; go_simp; try with_reducible rfl
            try simp only [Act.put, List.setIfInBounds_toArray, List.set_cons_zero, List.set_cons_succ]
            refine held_many (rs := [9, 13]) (by kernel_rfl) (by simp) ⟨?_, ?_, trivial⟩
            · refine ⟨by rfl, fun K hK => ?_⟩
              simp only [List.getElem?_toArray, List.getElem?_cons_zero, List.getElem?_cons_succ]
              go_simp
              refine hK.out _ _ trivial (fun hHeld => ?_)
              clear hK K
              try simp only [Act.put, List.setIfInBounds_toArray, List.set_cons_zero, List.set_cons_succ]
              refine held_c (i := 13) (by kernel_rfl) (by rfl) (fun K hK => ?_)
              simp only [List.getElem?_toArray, List.getElem?_cons_zero, List.getElem?_cons_succ]
              go_simp
              refine hK.out _ _ trivial (fun hHeld => ?_)
              clear hK K
              try simp only [Act.put, List.setIfInBounds_toArray, List.set_cons_zero, List.set_cons_succ]
              refine held_w (i := 14) (d := some 51) (v := ?_) rfl (by kernel_rfl) (by kernel_rfl) (by kernel_rfl) (fun _ _ _ h => h) (by rfl) ?_ hHeld ?_
              rotate_left
              · intro w' hSw; obtain ⟨q0⟩ := hSw; simp only [List.getElem?_toArray, List.getElem?_cons_zero, List.getElem?_cons_succ]; go_simp; try with_reducible rfl
              try simp only [Act.put, List.setIfInBounds_toArray, List.set_cons_zero, List.set_cons_succ]
              refine held_c (i := 15) (by kernel_rfl) (by rfl) (fun K hK => ?_)
              simp only [List.getElem?_toArray, List.getElem?_cons_zero, List.getElem?_cons_succ]
              go_simp
              refine hK.out _ _ trivial (fun hHeld => ?_)
              clear hK K
              try simp only [Act.put, List.setIfInBounds_toArray, List.set_cons_zero, List.set_cons_succ]
              refine held_w (i := 16) (d := some 52) (v := ?_) rfl (by kernel_rfl) (by kernel_rfl) (by kernel_rfl) (fun _ _ _ h => h) (by rfl) ?_ hHeld ?_
              rotate_left
              · intro w' hSw; obtain ⟨q0⟩ := hSw; simp only [List.getElem?_toArray, List.getElem?_cons_zero, List.getElem?_cons_succ]; go_simp; try with_reducible rfl
              try simp only [Act.put, List.setIfInBounds_toArray, List.set_cons_zero, List.set_cons_succ]
              refine held_c (i := 17) (by kernel_rfl) (by rfl) (fun K hK => ?_)
              simp only [List.getElem?_toArray, List.getElem?_cons_zero, List.getElem?_cons_succ]
              go_simp
              refine hK.out _ _ trivial (fun hHeld => ?_)
              clear hK K
              try simp only [Act.put, List.setIfInBounds_toArray, List.set_cons_zero, List.set_cons_succ]
              refine wpAnyH_done (by kernel_rfl) ?_ _
              have hp1 := RowL.put (g := g) (D := D ++ [y]) (x := x) (E := E) (w := w3) (by simpa using HRW.out) y (k + 1) (by simp; omega)
              have hp2 := RowL.put (g := g) (D := D) (x := y) (E := y :: E) (by simpa using hp1) x k hD.symm
              have hbf : Below B w ((((w3.setCell ⟨g, (k + 1) * 2, none⟩ (.string (str y.1))).setCell ⟨g, (k + 1) * 2 + 1, none⟩ (.string (str y.2))).setCell ⟨g, k * 2, none⟩ (.string (str x.1))).setCell ⟨g, k * 2 + 1, none⟩ (.string (str x.2))) := (((hbB.setCell (p := ⟨g, (k + 1) * 2, none⟩) hg _).setCell (p := ⟨g, (k + 1) * 2 + 1, none⟩) hg _).setCell (p := ⟨g, k * 2, none⟩) hg _).setCell (p := ⟨g, k * 2 + 1, none⟩) hg _
              have HP2 := Lib.hid hp2
              clear hp1 hp2 hHeld y0 y1 fy0 fy1 x0 x1 fx0 fx1 HRW
              generalize (((w3.setCell ⟨g, (k + 1) * 2, none⟩ (.string (str y.1))).setCell ⟨g, (k + 1) * 2 + 1, none⟩ (.string (str y.2))).setCell ⟨g, k * 2, none⟩ (.string (str x.1))).setCell ⟨g, k * 2 + 1, none⟩ (.string (str x.2)) = wz at *
              go_wp2_with fail
              go_roundw
              case rel => exact ⟨k, D ++ x :: y :: E, by go_num, by omega, by omega, HP2.out.drew, hnext.out, hbf.drew⟩
              case measure => first | (simp [intOf]; done) | (simp [intOf]; omega)
            · refine ⟨by rfl, fun K hK => ?_⟩
              simp only [List.getElem?_toArray, List.getElem?_cons_zero, List.getElem?_cons_succ]
              go_simp
              refine hK.out _ _ trivial (fun hHeld => ?_)
              clear hK K
              try simp only [Act.put, List.setIfInBounds_toArray, List.set_cons_zero, List.set_cons_succ]
              refine held_c (i := 9) (by kernel_rfl) (by rfl) (fun K hK => ?_)
              simp only [List.getElem?_toArray, List.getElem?_cons_zero, List.getElem?_cons_succ]
              go_simp
              refine hK.out _ _ trivial (fun hHeld => ?_)
              clear hK K
              try simp only [Act.put, List.setIfInBounds_toArray, List.set_cons_zero, List.set_cons_succ]
              refine held_w (i := 14) (d := some 51) (v := ?_) rfl (by kernel_rfl) (by kernel_rfl) (by kernel_rfl) (fun _ _ _ h => h) (by rfl) ?_ hHeld ?_
              rotate_left
              · intro w' hSw; obtain ⟨q0⟩ := hSw; simp only [List.getElem?_toArray, List.getElem?_cons_zero, List.getElem?_cons_succ]; go_simp; try with_reducible rfl
              try simp only [Act.put, List.setIfInBounds_toArray, List.set_cons_zero, List.set_cons_succ]
              refine held_c (i := 15) (by kernel_rfl) (by rfl) (fun K hK => ?_)
              simp only [List.getElem?_toArray, List.getElem?_cons_zero, List.getElem?_cons_succ]
              go_simp
              refine hK.out _ _ trivial (fun hHeld => ?_)
              clear hK K
              try simp only [Act.put, List.setIfInBounds_toArray, List.set_cons_zero, List.set_cons_succ]
              refine held_w (i := 16) (d := some 52) (v := ?_) rfl (by kernel_rfl) (by kernel_rfl) (by kernel_rfl) (fun _ _ _ h => h) (by rfl) ?_ hHeld ?_
              rotate_left
              · intro w' hSw; obtain ⟨q0⟩ := hSw; simp only [List.getElem?_toArray, List.getElem?_cons_zero, List.getElem?_cons_succ]; go_simp; try with_reducible rfl
              try simp only [Act.put, List.setIfInBounds_toArray, List.set_cons_zero, List.set_cons_succ]
              refine held_c (i := 17) (by kernel_rfl) (by rfl) (fun K hK => ?_)
              simp only [List.getElem?_toArray, List.getElem?_cons_zero, List.getElem?_cons_succ]
              go_simp
              refine hK.out _ _ trivial (fun hHeld => ?_)
              clear hK K
              try simp only [Act.put, List.setIfInBounds_toArray, List.set_cons_zero, List.set_cons_succ]
              refine wpAnyH_done (by kernel_rfl) ?_ _
              have hp1 := RowL.put (g := g) (D := D ++ [y]) (x := x) (E := E) (w := w3) (by simpa using HRW.out) y (k + 1) (by simp; omega)
              have hp2 := RowL.put (g := g) (D := D) (x := y) (E := y :: E) (by simpa using hp1) x k hD.symm
              have hbf : Below B w ((((w3.setCell ⟨g, (k + 1) * 2, none⟩ (.string (str y.1))).setCell ⟨g, (k + 1) * 2 + 1, none⟩ (.string (str y.2))).setCell ⟨g, k * 2, none⟩ (.string (str x.1))).setCell ⟨g, k * 2 + 1, none⟩ (.string (str x.2))) := (((hbB.setCell (p := ⟨g, (k + 1) * 2, none⟩) hg _).setCell (p := ⟨g, (k + 1) * 2 + 1, none⟩) hg _).setCell (p := ⟨g, k * 2, none⟩) hg _).setCell (p := ⟨g, k * 2 + 1, none⟩) hg _
              have HP2 := Lib.hid hp2
              clear hp1 hp2 hHeld y0 y1 fy0 fy1 x0 x1 fx0 fx1 HRW
              generalize (((w3.setCell ⟨g, (k + 1) * 2, none⟩ (.string (str y.1))).setCell ⟨g, (k + 1) * 2 + 1, none⟩ (.string (str y.2))).setCell ⟨g, k * 2, none⟩ (.string (str x.1))).setCell ⟨g, k * 2 + 1, none⟩ (.string (str x.2)) = wz at *
              go_wp2_with fail
              go_roundw
              case rel => exact ⟨k, D ++ x :: y :: E, by go_num, by omega, by omega, HP2.out.drew, hnext.out, hbf.drew⟩
              case measure => first | (simp [intOf]; done) | (simp [intOf]; omega)
        · obtain rfl : j = p := by omega
          have hfin := Lib.hid (HJ.out.done (.inl (by have := HP.out.1; omega)))
          have hng : ¬ (j : Int) < (j : Int) := by omega
          go_wp2_with fail
          go_quiet (fail)
          go_wp2_with fail
          go_roundw
          case rel => exact ⟨i + 1, l2, by go_num, by omega, hrow2, ⟨fun _ => hfin.out, fun e => absurd e hA⟩, below_drewN hb2 _⟩
          case measure => simp [intOf]; omega
    · have hres : Hid (∃ C, l = P ++ C ++ S ∧ SortedN C ∧ Stb C A ∧ C.length = A.length) := by
        by_cases hA : A = []
        · obtain ⟨e, _⟩ := HI.out.2 hA
          exact ⟨A, e, by rw [hA]; exact List.Pairwise.nil, Stb.refl _, rfl⟩
        · exact (HI.out.1 hA).end (by have := HP.out.2; omega)
      have HROW := Lib.hid hrow
      go_wp2_with fail
      go_end0
      obtain ⟨C, e, h1, h2, h3⟩ := hres.out
      refine ⟨rfl, ⟨C, ?_, h1, h2, h3⟩, hb⟩
      rw [← e]; exact HROW.out
end Go.Proofs.Ytopnnhjfcfhihaa
