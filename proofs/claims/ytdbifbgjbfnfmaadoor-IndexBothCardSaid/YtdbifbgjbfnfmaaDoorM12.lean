/-
  Texts of the same seat, one behind the other (merged; each says at its head what it is).
-/
import Derived.Test.YtdbifbgjbfnfmaaDoorM11
import Derived.Test.YtdbifbgjbfnfmaaDoorM09
import Derived.Test.YtdbifbgjbfnfmaaDoorM05
import Derived.Test.YtdbifbgjbfnfmaaDoorM01
import Derived.Lib.Builder
import Derived.Lib.AppendStr
import Derived.Lib.UnsafeStr
import Derived.Laws.Externs
import Derived.Test.YtdbifbgjbfnfmaaDoorM08
import Derived.Test.YtdbifbgjbfnfmaaDoorM03
import Derived.Test.YtdbifbgjbfnfmaaDoorM04
import Derived.Maps.OwnSet
import Derived.Maps.RangeWalk
/-
  Layer 4 (label): two runs in a row of labels become one, whatever their lengths.
-/
namespace Go.Proofs.YtdbifbgjbfnfmaaDoor
open Go.RowKit Go.Deep
theorem symm_c (K : Nat) : SymSays K := by
  induction K with
  | zero =>
    intro g B N cap a m b P A C S w hK _ _ _ _ _ hA1 hC1
    omega
  | succ K ihk =>
    intro g B N cap a m b P A C S w hK hg hB ha hm hb hA1 hC1 hA hC hN hn hr
    by_cases h1 : A.length = 1
    · obtain ⟨x, rfl⟩ := List.length_eq_one_iff.1 h1
      refine (symm_one g B N cap a m b P C S x w hg hB ha (by simpa using hm) hb hC1 hC hN hn (by simpa using hr)).mono ?_
      rintro e w' ⟨he, ⟨D, q1, q2, q3, q4⟩, hb'⟩
      exact ⟨he, ⟨D, q1, q2, q3, by simp; omega⟩, hb'⟩
    · by_cases h2 : C.length = 1
      · obtain ⟨x, rfl⟩ := List.length_eq_one_iff.1 h2
        refine (symm_last g B N cap a m b P A S x w hg hB ha hm (by simpa using hb) (by omega) hA hN hn (by simpa using hr)).mono ?_
        rintro e w' ⟨he, ⟨D, q1, q2, q3, q4⟩, hb'⟩
        exact ⟨he, ⟨D, q1, q2, q3, by simp; omega⟩, hb'⟩
      · by_cases h3 : (a + b) / 2 < m
        · exact symm_lo K g B N cap a m b P A C S w ihk hK hg hB ha hm hb (by omega) (by omega) hA hC hN hn hr _ _ _ _ _ rfl rfl rfl ⟨h3, rfl, rfl⟩
        · exact symm_hi K g B N cap a m b P A C S w ihk hK hg hB ha hm hb (by omega) (by omega) hA hC hN hn hr _ _ _ _ _ rfl rfl rfl ⟨by omega, rfl, rfl⟩
end Go.Proofs.YtdbifbgjbfnfmaaDoor
/-
  Layer 4 (label): the insertion sort of a piece of a row of labels.
-/
namespace Go.Proofs.YtdbifbgjbfnfmaaDoor
open Go.RowKit Go.Deep
attribute [local go_sem] str_size str_append str_toList str_get str_extract
set_option linter.unusedVariables false
set_option linter.unusedSimpArgs false
/-- What stands of the outer loop: the first i places behind P are in order. -/
def InsAt (P A S : List Lab) (i : Nat) (l : List Lab) : Prop := ∃ C R, l = P ++ C ++ R ++ S ∧ P.length + C.length = i ∧ SortedN C ∧ Stb (C ++ R) A ∧ C.length + R.length = A.length
/-- What stands of the inner loop: x has come to place j. -/
def InsIn (P A S : List Lab) (i j : Nat) (l : List Lab) : Prop := ∃ C1 x C2 R, l = P ++ C1 ++ x :: (C2 ++ (R ++ S)) ∧ P.length + C1.length = j ∧ P.length + C1.length + C2.length = i ∧ SortedN (C1 ++ C2) ∧ (∀ z ∈ C2, ltN x z = true) ∧ Stb (C1 ++ x :: C2 ++ R) A ∧ C1.length + C2.length + 1 + R.length = A.length
theorem InsAt.start {P A S : List Lab} {i : Nat} {l : List Lab} (h : InsAt P A S i l) (hi : i < P.length + A.length) : InsIn P A S i i l := by
  obtain ⟨C, R, h1, h2, h3, h4, h5⟩ := h
  cases R with
  | nil => simp at h5; omega
  | cons x R => exact ⟨C, x, [], R, by rw [h1]; simp, h2, by simpa using h2, by simpa using h3, by simp, by simpa using h4, by simp at h5 ⊢; omega⟩
theorem InsIn.done {P A S : List Lab} {i j : Nat} {l : List Lab} (h : InsIn P A S i j l) (hj : j = P.length ∨ ∃ D y x E, l = D ++ y :: x :: E ∧ D.length + 1 = j ∧ ltN x y = false) : InsAt P A S (i + 1) l := by
  obtain ⟨C1, x, C2, R, h1, h2, h3, h4, h5, h6, h7⟩ := h
  refine ⟨C1 ++ x :: C2, R, by rw [h1]; simp, by simp; omega, ?_, by simpa using h6, by simp; omega⟩
  have hle : ∀ z ∈ C1, ltN x z = false := by
    rcases hj with hj | ⟨D, y, x', E, e, hD, hlt⟩
    · have : C1 = [] := List.eq_nil_of_length_eq_zero (by omega)
      subst this; simp
    · intro z hz
      obtain ⟨C0, c, rfl⟩ : ∃ C0 c, C1 = C0 ++ [c] := by
        have hne : C1 ≠ [] := by rintro rfl; simp at hz
        exact ⟨C1.dropLast, C1.getLast hne, (List.dropLast_concat_getLast hne).symm⟩
      have e2 : D ++ y :: x' :: E = (P ++ C0) ++ c :: x :: (C2 ++ (R ++ S)) := by rw [← e, h1]; simp
      have hlen : D.length = (P ++ C0).length := by simp at h2 ⊢; omega
      obtain ⟨_, e3⟩ := List.append_inj e2 hlen
      injection e3 with e3 e4
      injection e4 with e4 _
      subst e3 e4
      rcases List.mem_append.1 hz with hz | hz
      · have hs := (List.pairwise_append.1 ((List.pairwise_append.1 h4).1)).2.2 z hz y (by simp)
        exact leN_trans hs hlt
      · simp at hz; subst hz; exact hlt
  obtain ⟨s1, s2, s3⟩ := List.pairwise_append.1 h4
  refine List.pairwise_append.2 ⟨s1, List.pairwise_cons.2 ⟨fun z hz => ltN_asymm (h5 z hz), s2⟩, fun a ha b hb => ?_⟩
  rcases List.mem_cons.1 hb with rfl | hb
  · exact hle a ha
  · exact s3 a ha b hb
theorem InsIn.step {P A S D E : List Lab} {i k : Nat} {x y : Lab} (h : InsIn P A S i (k + 1) (D ++ y :: x :: E)) (hD : D.length = k) (hk : P.length ≤ k) (hlt : ltN x y = true) : InsIn P A S i k (D ++ x :: y :: E) := by
  obtain ⟨C1, x', C2, R, h1, h2, h3, h4, h5, h6, h7⟩ := h
  obtain ⟨C0, c, rfl⟩ : ∃ C0 c, C1 = C0 ++ [c] := by
    have hne : C1 ≠ [] := by rintro rfl; simp at h2; omega
    exact ⟨C1.dropLast, C1.getLast hne, (List.dropLast_concat_getLast hne).symm⟩
  have e2 : D ++ y :: x :: E = (P ++ C0) ++ c :: x' :: (C2 ++ (R ++ S)) := by rw [h1]; simp
  have hlen : D.length = (P ++ C0).length := by simp at h2 ⊢; omega
  obtain ⟨e5, e3⟩ := List.append_inj e2 hlen
  injection e3 with e3 e4
  injection e4 with e4 e6
  subst e3 e4 e5 e6
  refine ⟨C0, x, y :: C2, R, by simp, by simp at h2 ⊢; omega, by simp at h2 h3 ⊢; omega, by simpa using h4, ?_, ?_, by simp at h7 ⊢; omega⟩
  · intro z hz
    rcases List.mem_cons.1 hz with rfl | hz
    · exact hlt
    · exact h5 z hz
  · have hsw : Stb (C0 ++ [x, y] ++ (C2 ++ R)) (C0 ++ [y, x] ++ (C2 ++ R)) := Stb.append (Stb.append (Stb.refl C0) (Stb.two (ltN_ne hlt))) (Stb.refl _)
    have := hsw.trans (show Stb (C0 ++ [y, x] ++ (C2 ++ R)) A by simpa using h6)
    simpa using this
/-- Two neighbours of the inner loop. -/
theorem InsIn.two {P A S : List Lab} {i k : Nat} {l : List Lab} (h : InsIn P A S i (k + 1) l) (hk : P.length ≤ k) : ∃ D y x E, l = D ++ y :: x :: E ∧ D.length = k := by
  obtain ⟨C1, x', C2, R, h1, h2, h3, h4, h5, h6, h7⟩ := h
  obtain ⟨C0, c, rfl⟩ : ∃ C0 c, C1 = C0 ++ [c] := by
    have hne : C1 ≠ [] := by rintro rfl; simp at h2; omega
    exact ⟨C1.dropLast, C1.getLast hne, (List.dropLast_concat_getLast hne).symm⟩
  exact ⟨P ++ C0, c, x', C2 ++ (R ++ S), by rw [h1]; simp, by simp at h2 ⊢; omega⟩
theorem InsIn.length {P A S : List Lab} {i j : Nat} {l : List Lab} (h : InsIn P A S i j l) : l.length = P.length + A.length + S.length := by
  obtain ⟨C1, x', C2, R, h1, h2, h3, h4, h5, h6, h7⟩ := h
  rw [h1]; simp; omega
theorem InsIn.place {P A S : List Lab} {i j : Nat} {l : List Lab} (h : InsIn P A S i j l) : P.length ≤ j ∧ j ≤ i ∧ i < P.length + A.length := by
  obtain ⟨C1, x', C2, R, h1, h2, h3, h4, h5, h6, h7⟩ := h
  omega
theorem InsAt.end {P A S : List Lab} {i : Nat} {l : List Lab} (h : InsAt P A S i l) (hi : P.length + A.length ≤ i) : ∃ C, l = P ++ C ++ S ∧ SortedN C ∧ Stb C A ∧ C.length = A.length := by
  obtain ⟨C, R, h1, h2, h3, h4, h5⟩ := h
  have : R = [] := List.eq_nil_of_length_eq_zero (by omega)
  subst this
  exact ⟨C, by simpa using h1, h3, by simpa using h4, by simpa using h5⟩
theorem InsAt.place {P A S : List Lab} {i : Nat} {l : List Lab} (h : InsAt P A S i l) : i ≤ P.length + A.length := by
  obtain ⟨C, R, h1, h2, h3, h4, h5⟩ := h
  omega
set_option maxHeartbeats 4000000 in
theorem insertion_c (g B N cap : Nat) (P A S : List Lab) (w : World) (hg : B ≤ g) (hB : B ≤ w.heap.size) (hN : N = P.length + A.length + S.length) (hcap : N ≤ cap) (hn : N ≤ 4096) (hr : RowL g (P ++ A ++ S) w) :
    Calls Tryd.prog 120 #[.slice (some ⟨g, 0, none⟩) N cap, .int .i64 (P.length : Nat), .int .i64 ((P.length + A.length : Nat) : Nat), .func (.func 80) #[] #[]] w fun e w' => e = .returned (.tuple #[]) ∧ (∃ C, RowL g (P ++ C ++ S) w' ∧ SortedN C ∧ Stb C A ∧ C.length = A.length) ∧ Below B w w' := by
  obtain ⟨p, hp⟩ : ∃ p, P.length = p := ⟨_, rfl⟩
  obtain ⟨q, hq⟩ : ∃ q, P.length + A.length = q := ⟨_, rfl⟩
  rw [hq, hp]
  have hpq : p ≤ q := by omega
  have hqN : q ≤ N := by omega
  have HP := Lib.hid (And.intro hp hq)
  have HR0 := Lib.hid hr
  have HN := Lib.hid hN
  clear hr hp hq hN
  go_enter Tryd.func120, Tryd.ntmps120
  go_wp2_with fail
  go_loopw [8] (fun c wr => ∃ (i : Nat) (l : List Lab), c = .int .i64 i ∧ i ≤ q + 1 ∧ RowL g l wr ∧ Hid ((A ≠ [] → InsAt P A S i l) ∧ (A = [] → l = P ++ A ++ S ∧ q < i)) ∧ Below B w wr) (fun c _ => q + 1 - (intOf c).toNat)
  case atStart =>
    refine ⟨p + 1, P ++ A ++ S, by simp, by omega, HR0.out, ⟨?_, ?_⟩, Below.refl _ _⟩
    · intro hA
      obtain ⟨x, r, rfl⟩ : ∃ x r, A = x :: r := by cases A with | nil => exact absurd rfl hA | cons x r => exact ⟨x, r, rfl⟩
      exact ⟨[x], r, by simp, by simp; have := HP.out.1; omega, by simp [SortedN], Stb.refl _, by simp; omega⟩
    · intro hA
      refine ⟨rfl, ?_⟩
      have h := HP.out
      rw [hA] at h
      simp at h
      omega
  case round =>
    obtain ⟨i, l, rfl, hi, hrow, HI, hb⟩ := hrel
    by_cases hlt : i < q
    · have hA : A ≠ [] := fun e => by have := (HI.out.2 e).2; omega
      have hin := (HI.out.1 hA).start (by have := HP.out.2; omega)
      go_wp2_with fail
      obtain ⟨wo, rfl⟩ : ∃ wo : World, wo = wr := ⟨_, rfl⟩
      go_loopw [9] (fun c wr => ∃ (j : Nat) (l : List Lab), c = .int .i64 j ∧ p ≤ j ∧ j ≤ i ∧ RowL g l wr ∧ Hid (InsIn P A S i j l) ∧ Below B w wr) (fun c _ => (intOf c).toNat)
      case atStart => exact ⟨i, l, rfl, by have := hin.place; have := HP.out.1; omega, by omega, hrow, hin, hb⟩
      case round =>
        obtain ⟨j, l2, rfl, hpj, hji, hrow2, HJ, hb2⟩ := hrel
        by_cases hj : p < j
        · obtain ⟨k, rfl⟩ : ∃ k, j = k + 1 := ⟨j - 1, by omega⟩
          obtain ⟨D, y, x, E, rfl, hD⟩ := HJ.out.two (by have := HP.out.1; omega)
          have hkN : k + 1 < N := by omega
          obtain ⟨y0, y1, fy0, fy1⟩ := hrow2.get (D := D) (x := y) (E := x :: E) k hD.symm
          obtain ⟨x0, x1, fx0, fx1⟩ := RowL.get (g := g) (D := D ++ [y]) (x := x) (E := E) (w := wr) (by simpa using hrow2) (k + 1) (by simp; omega)
          have hS : ∀ W, Below wr.heap.size wr W → W.cell? ⟨g, k * 2, none⟩ = some (.string (str y.1)) ∧ W.cell? ⟨g, k * 2 + 1, none⟩ = some (.string (str y.2)) ∧ W.cell? ⟨g, (k + 1) * 2, none⟩ = some (.string (str x.1)) ∧ W.cell? ⟨g, (k + 1) * 2 + 1, none⟩ = some (.string (str x.2)) ∧ Below wr.heap.size wr W := by
            intro W hW
            have hrW := hrow2.below hW
            obtain ⟨y0, y1, fy0, fy1⟩ := hrW.get (D := D) (x := y) (E := x :: E) k hD.symm
            obtain ⟨x0, x1, fx0, fx1⟩ := RowL.get (g := g) (D := D ++ [y]) (x := x) (E := E) (w := W) (by simpa using hrW) (k + 1) (by simp; omega)
            exact ⟨y0, y1, x0, x1, hW⟩
          have HS := Lib.hid hS
          have hS0 := hS wr (Below.refl _ _)
          have cc := fun W => cmp_c x y W
          have hgt : (p : Int) < (k : Int) + 1 := by omega
          obtain ⟨c, hc⟩ : ∃ c, cmpN x y = c := ⟨_, rfl⟩
          rw [hc] at cc
          have HC := Lib.hid hc
          have HROW := Lib.hid hrow2
          have hk1 : ((k + 1 : Nat) : Int) = (k : Int) + 1 := by omega
          have i1 : (0 : Int) ≤ (k : Int) + 1 ∧ (k : Int) + 1 < (N : Int) := by omega
          have i2 : (0 : Int) ≤ (k : Int) ∧ (k : Int) < (N : Int) := by omega
          have i3 : IntKind.i64.wrap (k : Int) = (k : Int) := IntWalk.i64_in _ (by omega)
          clear hS hc hrow2 y0 y1 fy0 fy1 x0 x1 fx0 fx1
          go_wp2_with fail
          refine wp_region_held_drew (S := fun W => W.cell? ⟨g, k * 2, none⟩ = some (.string (str y.1)) ∧ W.cell? ⟨g, k * 2 + 1, none⟩ = some (.string (str y.2)) ∧ W.cell? ⟨g, (k + 1) * 2, none⟩ = some (.string (str x.1)) ∧ W.cell? ⟨g, (k + 1) * 2 + 1, none⟩ = some (.string (str x.2)) ∧ Below wr.heap.size wr W) (by kernel_rfl) (HS.out _ ((Below.refl _ _).drew)) (fun hHeld => ?_)
          refine held_w (i := 0) (d := some 18) (v := ?_) rfl (by kernel_rfl) (by kernel_rfl) (by kernel_rfl) (fun _ _ _ h => h) (by rfl) ?_ hHeld ?_
          rotate_left
          · intro w' hSw; obtain ⟨q0, q1, q2, q3, q4⟩ := hSw; simp only [List.getElem?_toArray, List.getElem?_cons_zero, List.getElem?_cons_succ]; go_simp; try with_reducible rfl
          try simp only [Act.put, List.setIfInBounds_toArray, List.set_cons_zero, List.set_cons_succ]
          refine held_w (i := 1) (d := some 19) (v := ?_) rfl (by kernel_rfl) (by kernel_rfl) (by kernel_rfl) (fun _ _ _ h => h) (by rfl) ?_ hHeld ?_
          rotate_left
          · intro w' hSw; obtain ⟨q0, q1, q2, q3, q4⟩ := hSw; simp only [List.getElem?_toArray, List.getElem?_cons_zero, List.getElem?_cons_succ]; go_simp; try with_reducible rfl
          try simp only [Act.put, List.setIfInBounds_toArray, List.set_cons_zero, List.set_cons_succ]
          refine held_w (i := 2) (d := some 20) (v := ?_) rfl (by kernel_rfl) (by kernel_rfl) (by kernel_rfl) (fun _ _ _ h => h) (by rfl) ?_ hHeld ?_
          rotate_left
          · intro w' hSw; obtain ⟨q0, q1, q2, q3, q4⟩ := hSw; simp only [List.getElem?_toArray, List.getElem?_cons_zero, List.getElem?_cons_succ]; go_simp; try with_reducible rfl
          try simp only [Act.put, List.setIfInBounds_toArray, List.set_cons_zero, List.set_cons_succ]
          refine held_w (i := 3) (d := some 21) (v := ?_) rfl (by kernel_rfl) (by kernel_rfl) (by kernel_rfl) (fun _ _ _ h => h) (by rfl) ?_ hHeld ?_
          rotate_left
          · intro w' hSw; obtain ⟨q0, q1, q2, q3, q4⟩ := hSw; simp only [List.getElem?_toArray, List.getElem?_cons_zero, List.getElem?_cons_succ]; go_simp; try with_reducible rfl
          try simp only [Act.put, List.setIfInBounds_toArray, List.set_cons_zero, List.set_cons_succ]
          refine held_w (i := 4) (d := some 22) (v := ?_) rfl (by kernel_rfl) (by kernel_rfl) (by kernel_rfl) (fun _ _ _ h => h) (by rfl) ?_ hHeld ?_
          rotate_left
          · intro w' hSw; obtain ⟨q0, q1, q2, q3, q4⟩ := hSw; simp only [List.getElem?_toArray, List.getElem?_cons_zero, List.getElem?_cons_succ]; go_simp; try with_reducible rfl
          try simp only [Act.put, List.setIfInBounds_toArray, List.set_cons_zero, List.set_cons_succ]
          refine held_w (i := 5) (d := some 23) (v := ?_) rfl (by kernel_rfl) (by kernel_rfl) (by kernel_rfl) (fun _ _ _ h => h) (by rfl) ?_ hHeld ?_
          rotate_left
          · intro w' hSw; obtain ⟨q0, q1, q2, q3, q4⟩ := hSw; simp only [List.getElem?_toArray, List.getElem?_cons_zero, List.getElem?_cons_succ]; go_simp; try with_reducible rfl
          try simp only [Act.put, List.setIfInBounds_toArray, List.set_cons_zero, List.set_cons_succ]
          refine held_w (i := 6) (d := some 24) (v := ?_) rfl (by kernel_rfl) (by kernel_rfl) (by kernel_rfl) (fun _ _ _ h => h) (by rfl) ?_ hHeld ?_
          rotate_left
          · intro w' hSw; obtain ⟨q0, q1, q2, q3, q4⟩ := hSw; simp only [List.getElem?_toArray, List.getElem?_cons_zero, List.getElem?_cons_succ]; go_simp; try with_reducible rfl
          try simp only [Act.put, List.setIfInBounds_toArray, List.set_cons_zero, List.set_cons_succ]
          refine held_w (i := 7) (d := some 25) (v := ?_) rfl (by kernel_rfl) (by kernel_rfl) (by kernel_rfl) (fun _ _ _ h => h) (by rfl) ?_ hHeld ?_
          rotate_left
          · intro w' hSw; obtain ⟨q0, q1, q2, q3, q4⟩ := hSw; simp only [List.getElem?_toArray, List.getElem?_cons_zero, List.getElem?_cons_succ]; go_simp; try with_reducible rfl
          try simp only [Act.put, List.setIfInBounds_toArray, List.set_cons_zero, List.set_cons_succ]
          refine held_w (i := 8) (d := some 26) (v := ?_) rfl (by kernel_rfl) (by kernel_rfl) (by kernel_rfl) (fun _ _ _ h => h) (by rfl) ?_ hHeld ?_
          rotate_left
          · intro w' hSw; obtain ⟨q0, q1, q2, q3, q4⟩ := hSw; simp only [List.getElem?_toArray, List.getElem?_cons_zero, List.getElem?_cons_succ]; go_simp; try with_reducible rfl
          try simp only [Act.put, List.setIfInBounds_toArray, List.set_cons_zero, List.set_cons_succ]
          refine held_w (i := 9) (d := some 27) (v := ?_) rfl (by kernel_rfl) (by kernel_rfl) (by kernel_rfl) (fun _ _ _ h => h) (by rfl) ?_ hHeld ?_
          rotate_left
          · intro w' hSw; obtain ⟨q0, q1, q2, q3, q4⟩ := hSw; simp only [List.getElem?_toArray, List.getElem?_cons_zero, List.getElem?_cons_succ]; go_simp; try with_reducible rfl
          try simp only [Act.put, List.setIfInBounds_toArray, List.set_cons_zero, List.set_cons_succ]
          refine held_w (i := 10) (d := some 28) (v := ?_) rfl (by kernel_rfl) (by kernel_rfl) (by kernel_rfl) (fun _ _ _ h => h) (by rfl) ?_ hHeld ?_
          rotate_left
          · intro w' hSw; obtain ⟨q0, q1, q2, q3, q4⟩ := hSw; simp only [List.getElem?_toArray, List.getElem?_cons_zero, List.getElem?_cons_succ]; go_simp; try with_reducible rfl
          try simp only [Act.put, List.setIfInBounds_toArray, List.set_cons_zero, List.set_cons_succ]
          refine held_w (i := 11) (d := some 29) (v := ?_) rfl (by kernel_rfl) (by kernel_rfl) (by kernel_rfl) (fun _ _ _ h => h) (by rfl) ?_ hHeld ?_
          rotate_left
          · intro w' hSw; obtain ⟨q0, q1, q2, q3, q4⟩ := hSw; simp only [List.getElem?_toArray, List.getElem?_cons_zero, List.getElem?_cons_succ]; go_simp; try with_reducible rfl
          try simp only [Act.put, List.setIfInBounds_toArray, List.set_cons_zero, List.set_cons_succ]
          refine held_w (i := 12) (d := some 30) (v := ?_) rfl (by kernel_rfl) (by kernel_rfl) (by kernel_rfl) (fun _ _ _ h => h) (by rfl) ?_ hHeld ?_
          rotate_left
          · intro w' hSw; obtain ⟨q0, q1, q2, q3, q4⟩ := hSw; simp only [List.getElem?_toArray, List.getElem?_cons_zero, List.getElem?_cons_succ]; go_simp; try with_reducible rfl
          try simp only [Act.put, List.setIfInBounds_toArray, List.set_cons_zero, List.set_cons_succ]
          refine held_w (i := 13) (d := some 31) (v := ?_) rfl (by kernel_rfl) (by kernel_rfl) (by kernel_rfl) (fun _ _ _ h => h) (by rfl) ?_ hHeld ?_
          rotate_left
          · intro w' hSw; obtain ⟨q0, q1, q2, q3, q4⟩ := hSw; simp only [List.getElem?_toArray, List.getElem?_cons_zero, List.getElem?_cons_succ]; go_simp; try with_reducible rfl
          try simp only [Act.put, List.setIfInBounds_toArray, List.set_cons_zero, List.set_cons_succ]
          refine held_c (i := 14) (by kernel_rfl) (by rfl) (fun K hK => ?_)
          simp only [List.getElem?_toArray, List.getElem?_cons_zero, List.getElem?_cons_succ]
          go_simp
          refine (cc _).mono ?_
          rintro e w3 ⟨rfl, hb3⟩
          have hb4 := hHeld.2.2.2.2.trans (hb3.mono hHeld.2.2.2.2.size)
          refine hK.out _ _ (HS.out _ hb4) (fun hHeld => ?_)
          clear hK hb3
          try simp only [Act.put, List.setIfInBounds_toArray, List.set_cons_zero, List.set_cons_succ]
          refine held_w (i := 15) (d := some 33) (v := ?_) rfl (by kernel_rfl) (by kernel_rfl) (by kernel_rfl) (fun _ _ _ h => h) (by rfl) ?_ hHeld ?_
          rotate_left
          · intro w' hSw; obtain ⟨q0, q1, q2, q3, q4⟩ := hSw; simp only [List.getElem?_toArray, List.getElem?_cons_zero, List.getElem?_cons_succ]; go_simp; try with_reducible rfl
          try simp only [Act.put, List.setIfInBounds_toArray, List.set_cons_zero, List.set_cons_succ]
          refine held_w (i := 16) (d := some 34) (v := ?_) rfl (by kernel_rfl) (by kernel_rfl) (by kernel_rfl) (fun _ _ _ h => h) (by rfl) ?_ hHeld ?_
          rotate_left
          · intro w' hSw; obtain ⟨q0, q1, q2, q3, q4⟩ := hSw; simp only [List.getElem?_toArray, List.getElem?_cons_zero, List.getElem?_cons_succ]; go_simp; try with_reducible rfl
          try simp only [Act.put, List.setIfInBounds_toArray, List.set_cons_zero, List.set_cons_succ]
          refine wpAnyH_done (by kernel_rfl) ?_ _
          skip
          have hbw := hHeld.2.2.2.2
          have hrW := HROW.out.below hbw
          have hbB : Below B w w3 := hb2.trans (hbw.mono (by have := hb2.size; omega))
          obtain ⟨y0, y1, fy0, fy1⟩ := hrW.get (D := D) (x := y) (E := x :: E) k hD.symm
          obtain ⟨x0, x1, fx0, fx1⟩ := RowL.get (g := g) (D := D ++ [y]) (x := x) (E := E) (by simpa using hrW) (k + 1) (by simp; omega)
          have HRW := Lib.hid hrW
          clear hHeld hrW hb4 hbw
          cases hlt2 : ltN x y with
          | false =>
            have hcn : ¬ c < 0 := by rw [← HC.out]; exact cmpN_ge hlt2
            have hfin := Lib.hid (HJ.out.done (.inr ⟨D, y, x, E, rfl, by omega, hlt2⟩))
            clear hlt2 y0 y1 fy0 fy1 x0 x1 fx0 fx1
            go_wp2_with fail
            go_roundw
            case rel => exact ⟨i + 1, D ++ y :: x :: E, by go_num, by omega, HRW.out, ⟨fun _ => hfin.out, fun e => absurd e hA⟩, hbB⟩
            case measure => simp [intOf]; omega
          | true =>
            have hcl : c < 0 := by rw [← HC.out]; exact cmpN_lt hlt2
            have hnext := Lib.hid (HJ.out.step hD (by have := HP.out.1; omega) hlt2)
            clear hlt2
            go_wp2_with fail
            refine wp_region_held_drew (S := fun _ => True) (by kernel_rfl) trivial (fun hHeld => ?_)
            refine held_w (i := 0) (d := some 37) (v := ?_) rfl (by kernel_rfl) (by kernel_rfl) (by kernel_rfl) (fun _ _ _ h => h) (by rfl) ?_ hHeld ?_
            rotate_left
            · intro w' hSw; obtain ⟨q0⟩ := hSw; simp only [List.getElem?_toArray, List.getElem?_cons_zero, List.getElem?_cons_succ]; go_simp; try with_reducible rfl
            try simp only [Act.put, List.setIfInBounds_toArray, List.set_cons_zero, List.set_cons_succ]
            refine held_w (i := 1) (d := some 38) (v := ?_) rfl (by kernel_rfl) (by kernel_rfl) (by kernel_rfl) (fun _ _ _ h => h) (by rfl) ?_ hHeld ?_
            rotate_left
            · intro w' hSw; obtain ⟨q0⟩ := hSw; simp only [List.getElem?_toArray, List.getElem?_cons_zero, List.getElem?_cons_succ]; go_simp; try with_reducible rfl
            try simp only [Act.put, List.setIfInBounds_toArray, List.set_cons_zero, List.set_cons_succ]
            refine held_w (i := 2) (d := some 39) (v := ?_) rfl (by kernel_rfl) (by kernel_rfl) (by kernel_rfl) (fun _ _ _ h => h) (by rfl) ?_ hHeld ?_
            rotate_left
            · intro w' hSw; obtain ⟨q0⟩ := hSw; simp only [List.getElem?_toArray, List.getElem?_cons_zero, List.getElem?_cons_succ]; go_simp; try with_reducible rfl
            try simp only [Act.put, List.setIfInBounds_toArray, List.set_cons_zero, List.set_cons_succ]
            refine held_w (i := 3) (d := some 40) (v := ?_) rfl (by kernel_rfl) (by kernel_rfl) (by kernel_rfl) (fun _ _ _ h => h) (by rfl) ?_ hHeld ?_
            rotate_left
            · intro w' hSw; obtain ⟨q0⟩ := hSw; simp only [List.getElem?_toArray, List.getElem?_cons_zero, List.getElem?_cons_succ]; go_simp; try with_reducible rfl
            try simp only [Act.put, List.setIfInBounds_toArray, List.set_cons_zero, List.set_cons_succ]
            refine held_w (i := 4) (d := some 41) (v := ?_) rfl (by kernel_rfl) (by kernel_rfl) (by kernel_rfl) (fun _ _ _ h => h) (by rfl) ?_ hHeld ?_
            rotate_left
            · intro w' hSw; obtain ⟨q0⟩ := hSw; simp only [List.getElem?_toArray, List.getElem?_cons_zero, List.getElem?_cons_succ]; go_simp; try with_reducible rfl
            try simp only [Act.put, List.setIfInBounds_toArray, List.set_cons_zero, List.set_cons_succ]
            refine held_w (i := 5) (d := some 42) (v := ?_) rfl (by kernel_rfl) (by kernel_rfl) (by kernel_rfl) (fun _ _ _ h => h) (by rfl) ?_ hHeld ?_
            rotate_left
            · intro w' hSw; obtain ⟨q0⟩ := hSw; simp only [List.getElem?_toArray, List.getElem?_cons_zero, List.getElem?_cons_succ]; go_simp; try with_reducible rfl
            try simp only [Act.put, List.setIfInBounds_toArray, List.set_cons_zero, List.set_cons_succ]
            refine held_w (i := 6) (d := some 43) (v := ?_) rfl (by kernel_rfl) (by kernel_rfl) (by kernel_rfl) (fun _ _ _ h => h) (by rfl) ?_ hHeld ?_
            rotate_left
            · intro w' hSw; obtain ⟨q0⟩ := hSw; simp only [List.getElem?_toArray, List.getElem?_cons_zero, List.getElem?_cons_succ]; go_simp; try with_reducible rfl
            try simp only [Act.put, List.setIfInBounds_toArray, List.set_cons_zero, List.set_cons_succ]
            refine held_w (i := 7) (d := some 44) (v := ?_) rfl (by kernel_rfl) (by kernel_rfl) (by kernel_rfl) (fun _ _ _ h => h) (by rfl) ?_ hHeld ?_
            rotate_left
            · intro w' hSw; obtain ⟨q0⟩ := hSw; simp only [List.getElem?_toArray, List.getElem?_cons_zero, List.getElem?_cons_succ]; go_simp; try with_reducible rfl
            try simp only [Act.put, List.setIfInBounds_toArray, List.set_cons_zero, List.set_cons_succ]
            refine held_w (i := 8) (d := some 45) (v := ?_) rfl (by kernel_rfl) (by kernel_rfl) (by kernel_rfl) (fun _ _ _ h => h) (by rfl) ?_ hHeld ?_
            rotate_left
            · intro w' hSw; obtain ⟨q0⟩ := hSw; simp only [List.getElem?_toArray, List.getElem?_cons_zero, List.getElem?_cons_succ]; go_simp; try with_reducible rfl
            try simp only [Act.put, List.setIfInBounds_toArray, List.set_cons_zero, List.set_cons_succ]
            refine held_w (i := 10) (d := some 47) (v := ?_) rfl (by kernel_rfl) (by kernel_rfl) (by kernel_rfl) (fun _ _ _ h => h) (by rfl) ?_ hHeld ?_
            rotate_left
            · intro w' hSw; obtain ⟨q0⟩ := hSw; simp only [List.getElem?_toArray, List.getElem?_cons_zero, List.getElem?_cons_succ]; go_simp; try with_reducible rfl
            try simp only [Act.put, List.setIfInBounds_toArray, List.set_cons_zero, List.set_cons_succ]
            refine held_w (i := 11) (d := some 48) (v := ?_) rfl (by kernel_rfl) (by kernel_rfl) (by kernel_rfl) (fun _ _ _ h => h) (by rfl) ?_ hHeld ?_
            rotate_left
            · intro w' hSw; obtain ⟨q0⟩ := hSw; simp only [List.getElem?_toArray, List.getElem?_cons_zero, List.getElem?_cons_succ]; go_simp; try with_reducible rfl
            try simp only [Act.put, List.setIfInBounds_toArray, List.set_cons_zero, List.set_cons_succ]
            refine held_w (i := 12) (d := some 49) (v := ?_) rfl (by kernel_rfl) (by kernel_rfl) (by kernel_rfl) (fun _ _ _ h => h) (by rfl) ?_ hHeld ?_
            rotate_left
            · intro w' hSw; obtain ⟨q0⟩ := hSw; simp only [List.getElem?_toArray, List.getElem?_cons_zero, List.getElem?_cons_succ]; go_simp; try with_reducible rfl
            try simp only [Act.put, List.setIfInBounds_toArray, List.set_cons_zero, List.set_cons_succ]
            refine held_many (rs := [9, 13]) (by kernel_rfl) (by simp) ⟨?_, ?_, trivial⟩
            · refine ⟨by rfl, fun K hK => ?_⟩
              simp only [List.getElem?_toArray, List.getElem?_cons_zero, List.getElem?_cons_succ]
              go_simp
              refine hK.out _ _ trivial (fun hHeld => ?_)
              clear hK K
              try simp only [Act.put, List.setIfInBounds_toArray, List.set_cons_zero, List.set_cons_succ]
              refine held_c (i := 13) (by kernel_rfl) (by rfl) (fun K hK => ?_)
              simp only [List.getElem?_toArray, List.getElem?_cons_zero, List.getElem?_cons_succ]
              go_simp
              refine hK.out _ _ trivial (fun hHeld => ?_)
              clear hK K
              try simp only [Act.put, List.setIfInBounds_toArray, List.set_cons_zero, List.set_cons_succ]
              refine held_w (i := 14) (d := some 51) (v := ?_) rfl (by kernel_rfl) (by kernel_rfl) (by kernel_rfl) (fun _ _ _ h => h) (by rfl) ?_ hHeld ?_
              rotate_left
              · intro w' hSw; obtain ⟨q0⟩ := hSw; simp only [List.getElem?_toArray, List.getElem?_cons_zero, List.getElem?_cons_succ]; go_simp; try with_reducible rfl
              try simp only [Act.put, List.setIfInBounds_toArray, List.set_cons_zero, List.set_cons_succ]
              refine held_c (i := 15) (by kernel_rfl) (by rfl) (fun K hK => ?_)
              simp only [List.getElem?_toArray, List.getElem?_cons_zero, List.getElem?_cons_succ]
              go_simp
              refine hK.out _ _ trivial (fun hHeld => ?_)
              clear hK K
              try simp only [Act.put, List.setIfInBounds_toArray, List.set_cons_zero, List.set_cons_succ]
              refine held_w (i := 16) (d := some 52) (v := ?_) rfl (by kernel_rfl) (by kernel_rfl) (by kernel_rfl) (fun _ _ _ h => h) (by rfl) ?_ hHeld ?_
              rotate_left
              · intro w' hSw; obtain ⟨q0⟩ := hSw; simp only [List.getElem?_toArray, List.getElem?_cons_zero, List.getElem?_cons_succ]; go_simp; try with_reducible rfl
              try simp only [Act.put, List.setIfInBounds_toArray, List.set_cons_zero, List.set_cons_succ]
              refine held_c (i := 17) (by kernel_rfl) (by rfl) (fun K hK => ?_)
              simp only [List.getElem?_toArray, List.getElem?_cons_zero, List.getElem?_cons_succ]
              go_simp
              refine hK.out _ _ trivial (fun hHeld => ?_)
              clear hK K
              try simp only [Act.put, List.setIfInBounds_toArray, List.set_cons_zero, List.set_cons_succ]
              refine wpAnyH_done (by kernel_rfl) ?_ _
              have hp1 := RowL.put (g := g) (D := D ++ [y]) (x := x) (E := E) (w := w3) (by simpa using HRW.out) y (k + 1) (by simp; omega)
              have hp2 := RowL.put (g := g) (D := D) (x := y) (E := y :: E) (by simpa using hp1) x k hD.symm
              have hbf : Below B w ((((w3.setCell ⟨g, (k + 1) * 2, none⟩ (.string (str y.1))).setCell ⟨g, (k + 1) * 2 + 1, none⟩ (.string (str y.2))).setCell ⟨g, k * 2, none⟩ (.string (str x.1))).setCell ⟨g, k * 2 + 1, none⟩ (.string (str x.2))) := (((hbB.setCell (p := ⟨g, (k + 1) * 2, none⟩) hg _).setCell (p := ⟨g, (k + 1) * 2 + 1, none⟩) hg _).setCell (p := ⟨g, k * 2, none⟩) hg _).setCell (p := ⟨g, k * 2 + 1, none⟩) hg _
              have HP2 := Lib.hid hp2
              clear hp1 hp2 hHeld y0 y1 fy0 fy1 x0 x1 fx0 fx1 HRW
              generalize (((w3.setCell ⟨g, (k + 1) * 2, none⟩ (.string (str y.1))).setCell ⟨g, (k + 1) * 2 + 1, none⟩ (.string (str y.2))).setCell ⟨g, k * 2, none⟩ (.string (str x.1))).setCell ⟨g, k * 2 + 1, none⟩ (.string (str x.2)) = wz at *
              go_wp2_with fail
              go_roundw
              case rel => exact ⟨k, D ++ x :: y :: E, by go_num, by omega, by omega, HP2.out.drew, hnext.out, hbf.drew⟩
              case measure => first | (simp [intOf]; done) | (simp [intOf]; omega)
            · refine ⟨by rfl, fun K hK => ?_⟩
              simp only [List.getElem?_toArray, List.getElem?_cons_zero, List.getElem?_cons_succ]
              go_simp
              refine hK.out _ _ trivial (fun hHeld => ?_)
              clear hK K
              try simp only [Act.put, List.setIfInBounds_toArray, List.set_cons_zero, List.set_cons_succ]
              refine held_c (i := 9) (by kernel_rfl) (by rfl) (fun K hK => ?_)
              simp only [List.getElem?_toArray, List.getElem?_cons_zero, List.getElem?_cons_succ]
              go_simp
              refine hK.out _ _ trivial (fun hHeld => ?_)
              clear hK K
              try simp only [Act.put, List.setIfInBounds_toArray, List.set_cons_zero, List.set_cons_succ]
              refine held_w (i := 14) (d := some 51) (v := ?_) rfl (by kernel_rfl) (by kernel_rfl) (by kernel_rfl) (fun _ _ _ h => h) (by rfl) ?_ hHeld ?_
              rotate_left
              · intro w' hSw; obtain ⟨q0⟩ := hSw; simp only [List.getElem?_toArray, List.getElem?_cons_zero, List.getElem?_cons_succ]; go_simp; try with_reducible rfl
              try simp only [Act.put, List.setIfInBounds_toArray, List.set_cons_zero, List.set_cons_succ]
              refine held_c (i := 15) (by kernel_rfl) (by rfl) (fun K hK => ?_)
              simp only [List.getElem?_toArray, List.getElem?_cons_zero, List.getElem?_cons_succ]
              go_simp
              refine hK.out _ _ trivial (fun hHeld => ?_)
              clear hK K
              try simp only [Act.put, List.setIfInBounds_toArray, List.set_cons_zero, List.set_cons_succ]
              refine held_w (i := 16) (d := some 52) (v := ?_) rfl (by kernel_rfl) (by kernel_rfl) (by kernel_rfl) (fun _ _ _ h => h) (by rfl) ?_ hHeld ?_
              rotate_left
              · intro w' hSw; obtain ⟨q0⟩ := hSw; simp only [List.getElem?_toArray, List.getElem?_cons_zero, List.getElem?_cons_succ]; go_simp; try with_reducible rfl
              try simp only [Act.put, List.setIfInBounds_toArray, List.set_cons_zero, List.set_cons_succ]
              refine held_c (i := 17) (by kernel_rfl) (by rfl) (fun K hK => ?_)
              simp only [List.getElem?_toArray, List.getElem?_cons_zero, List.getElem?_cons_succ]
              go_simp
              refine hK.out _ _ trivial (fun hHeld => ?_)
              clear hK K
              try simp only [Act.put, List.setIfInBounds_toArray, List.set_cons_zero, List.set_cons_succ]
              refine wpAnyH_done (by kernel_rfl) ?_ _
              have hp1 := RowL.put (g := g) (D := D ++ [y]) (x := x) (E := E) (w := w3) (by simpa using HRW.out) y (k + 1) (by simp; omega)
              have hp2 := RowL.put (g := g) (D := D) (x := y) (E := y :: E) (by simpa using hp1) x k hD.symm
              have hbf : Below B w ((((w3.setCell ⟨g, (k + 1) * 2, none⟩ (.string (str y.1))).setCell ⟨g, (k + 1) * 2 + 1, none⟩ (.string (str y.2))).setCell ⟨g, k * 2, none⟩ (.string (str x.1))).setCell ⟨g, k * 2 + 1, none⟩ (.string (str x.2))) := (((hbB.setCell (p := ⟨g, (k + 1) * 2, none⟩) hg _).setCell (p := ⟨g, (k + 1) * 2 + 1, none⟩) hg _).setCell (p := ⟨g, k * 2, none⟩) hg _).setCell (p := ⟨g, k * 2 + 1, none⟩) hg _
              have HP2 := Lib.hid hp2
              clear hp1 hp2 hHeld y0 y1 fy0 fy1 x0 x1 fx0 fx1 HRW
              generalize (((w3.setCell ⟨g, (k + 1) * 2, none⟩ (.string (str y.1))).setCell ⟨g, (k + 1) * 2 + 1, none⟩ (.string (str y.2))).setCell ⟨g, k * 2, none⟩ (.string (str x.1))).setCell ⟨g, k * 2 + 1, none⟩ (.string (str x.2)) = wz at *
              go_wp2_with fail
              go_roundw
              case rel => exact ⟨k, D ++ x :: y :: E, by go_num, by omega, by omega, HP2.out.drew, hnext.out, hbf.drew⟩
              case measure => first | (simp [intOf]; done) | (simp [intOf]; omega)
        · obtain rfl : j = p := by omega
          have hfin := Lib.hid (HJ.out.done (.inl (by have := HP.out.1; omega)))
          have hng : ¬ (j : Int) < (j : Int) := by omega
          go_wp2_with fail
          go_quiet (fail)
          go_wp2_with fail
          go_roundw
          case rel => exact ⟨i + 1, l2, by go_num, by omega, hrow2, ⟨fun _ => hfin.out, fun e => absurd e hA⟩, below_drewN hb2 _⟩
          case measure => simp [intOf]; omega
    · have hres : Hid (∃ C, l = P ++ C ++ S ∧ SortedN C ∧ Stb C A ∧ C.length = A.length) := by
        by_cases hA : A = []
        · obtain ⟨e, _⟩ := HI.out.2 hA
          exact ⟨A, e, by rw [hA]; exact List.Pairwise.nil, Stb.refl _, rfl⟩
        · exact (HI.out.1 hA).end (by have := HP.out.2; omega)
      have HROW := Lib.hid hrow
      go_wp2_with fail
      go_end0
      obtain ⟨C, e, h1, h2, h3⟩ := hres.out
      refine ⟨rfl, ⟨C, ?_, h1, h2, h3⟩, hb⟩
      rw [← e]; exact HROW.out
end Go.Proofs.YtdbifbgjbfnfmaaDoor
/-
  Layer 4 (label): a row of labels sorted: blocks of twenty, then merged in pairs.
-/
namespace Go.Proofs.YtdbifbgjbfnfmaaDoor
open Go.RowKit Go.Deep
attribute [local go_sem] str_size str_append str_toList str_get str_extract
set_option linter.unusedVariables false
set_option linter.unusedSimpArgs false
/-- Sorted blocks of k labels each. -/
def Blk (k : Nat) (bs : List (List Lab)) : Prop := ∀ b ∈ bs, b.length = k ∧ SortedN b
theorem Blk.snoc {k : Nat} {bs : List (List Lab)} {c : List Lab} (h : Blk k bs) (hc : c.length = k) (hs : SortedN c) : Blk k (bs ++ [c]) := by
  intro b hb
  rcases List.mem_append.1 hb with hb | hb
  · exact h b hb
  · simp at hb; subst hb; exact ⟨hc, hs⟩
theorem Blk.nil {k : Nat} : Blk k [] := fun b hb => by simp at hb
theorem Blk.head {k : Nat} {b : List Lab} {bs : List (List Lab)} (h : Blk k (b :: bs)) : b.length = k ∧ SortedN b ∧ Blk k bs :=
  ⟨(h b (by simp)).1, (h b (by simp)).2, fun c hc => h c (by simp [hc])⟩
/-- A row is cut: sorted blocks of k, and a sorted rest that is shorter. -/
def Cut (k : Nat) (l : List Lab) : Prop := ∃ bs r, l = bs.flatten ++ r ∧ Blk k bs ∧ SortedN r ∧ r.length < k
theorem Cut.done {k : Nat} {l : List Lab} (h : Cut k l) (hl : l.length ≤ k) : SortedN l := by
  obtain ⟨bs, r, rfl, hb, hr, hk⟩ := h
  match bs, hb with
  | [], _ => simpa using hr
  | [b], hb =>
    have h1 := hb.head
    have : r = [] := List.eq_nil_of_length_eq_zero (by simp at hl; omega)
    subst this
    simpa using h1.2.1
  | b :: c :: bs, hb =>
    have h1 := hb.head
    have h2 := h1.2.2.head
    simp at hl
    have := h1.1; have := h2.1
    have : k = 0 := by omega
    omega
/-- Of a cut row's blocks the first ones have been merged in pairs. -/
def Half (k a : Nat) (l : List Lab) : Prop := ∃ cs bs r, l = cs.flatten ++ (bs.flatten ++ r) ∧ cs.flatten.length = a ∧ Blk (2 * k) cs ∧ Blk k bs ∧ SortedN r ∧ r.length < k
theorem Cut.half {k : Nat} {l : List Lab} (h : Cut k l) : Half k 0 l := by
  obtain ⟨bs, r, rfl, hb, hr, hk⟩ := h
  exact ⟨[], bs, r, by simp, rfl, Blk.nil, hb, hr, hk⟩
/-- The next two blocks. -/
theorem Half.two {k a : Nat} {l : List Lab} (h : Half k a l) (hl : a + 2 * k ≤ l.length) : ∃ P A C S, l = P ++ A ++ C ++ S ∧ P.length = a ∧ A.length = k ∧ C.length = k ∧ SortedN A ∧ SortedN C ∧ ∀ D, SortedN D → D.length = A.length + C.length → Half k (a + 2 * k) (P ++ D ++ S) := by
  obtain ⟨cs, bs, r, rfl, ha, hc, hb, hr, hk⟩ := h
  match bs, hb with
  | [], _ => simp at hl ha; omega
  | [b], hb =>
    have h1 := hb.head.1
    simp at hl ha; omega
  | b :: c :: bs, hb =>
    have h1 := hb.head
    have h2 := h1.2.2.head
    refine ⟨cs.flatten, b, c, bs.flatten ++ r, by simp, ha, h1.1, h2.1, h1.2.1, h2.2.1, fun D hD hl => ⟨cs ++ [D], bs, r, by simp, ?_, hc.snoc ?_ hD, h2.2.2, hr, hk⟩⟩
    · rw [List.flatten_append, List.length_append, ha]; simp; have := h1.1; have := h2.1; omega
    · have := h1.1; have := h2.1; omega
/-- What is left: a block and a rest. -/
theorem Half.last {k a : Nat} {l : List Lab} (h : Half k a l) (hl : l.length < a + 2 * k) (hm : a + k < l.length) : ∃ P A C, l = P ++ A ++ C ∧ P.length = a ∧ A.length = k ∧ 1 ≤ C.length ∧ SortedN A ∧ SortedN C ∧ ∀ D, SortedN D → D.length = A.length + C.length → Cut (2 * k) (P ++ D) := by
  obtain ⟨cs, bs, r, rfl, ha, hc, hb, hr, hk⟩ := h
  match bs, hb with
  | [], _ => simp at hl hm ha; omega
  | [b], hb =>
    have h1 := hb.head
    have h2 := h1.1
    simp at hl hm ha
    refine ⟨cs.flatten, b, r, by simp, by simpa using ha, h1.1, by omega, h1.2.1, hr, fun D hD hl => ⟨cs, D, rfl, hc, hD, by omega⟩⟩
  | b :: c :: bs, hb =>
    have h1 := hb.head
    have h2 := h1.2.2.head
    have := h1.1; have := h2.1
    simp at hl ha; omega
theorem Half.still {k a : Nat} {l : List Lab} (h : Half k a l) (hl : l.length < a + 2 * k) (hm : l.length ≤ a + k) : Cut (2 * k) l := by
  obtain ⟨cs, bs, r, rfl, ha, hc, hb, hr, hk⟩ := h
  match bs, hb with
  | [], _ => exact ⟨cs, r, by simp, hc, hr, by omega⟩
  | [b], hb =>
    have h1 := hb.head
    have h2 := h1.1
    have : r = [] := List.eq_nil_of_length_eq_zero (by simp at hm ha; omega)
    subst this
    exact ⟨cs, b, by simp, hc, h1.2.1, by omega⟩
  | b :: c :: bs, hb =>
    have h1 := hb.head
    have h2 := h1.2.2.head
    have := h1.1; have := h2.1
    simp at hl ha; omega
set_option maxRecDepth 100000 in
set_option maxHeartbeats 8000000 in
theorem stable_c (g B N cap : Nat) (L : List Lab) (w : World) (hg : B ≤ g) (hB : B ≤ w.heap.size) (hN : L.length = N) (hcap : N ≤ cap) (hn : N ≤ 4096) (hr : RowL g L w) :
    Calls Tryd.prog 105 #[.slice (some ⟨g, 0, none⟩) N cap, .int .i64 (N : Int), .func (.func 80) #[] #[]] w fun e w' => e = .returned (.tuple #[]) ∧ (∃ D, RowL g D w' ∧ SortedN D ∧ Stb D L ∧ D.length = L.length) ∧ Below B w w' := by
  have HR0 := Lib.hid hr
  clear hr
  go_enter Tryd.func105, Tryd.ntmps105
  go_wp2_with fail
  go_loopw [7, 8] (fun c d wr => ∃ a b : Nat, c = .int .i64 a ∧ d = .int .i64 b ∧ (a + 20 ≤ b ∧ b ≤ a + 20) ∧ a ≤ N ∧ Hid (∃ bs R, bs.flatten.length = a ∧ Blk 20 bs ∧ RowL g (bs.flatten ++ R) wr ∧ Stb (bs.flatten ++ R) L ∧ a + R.length = N) ∧ Below B w wr) (fun c d _ => N + 20 - (intOf d).toNat)
  case atStart => exact ⟨0, 20, rfl, rfl, by omega, by omega, ⟨[], L, rfl, Blk.nil, by simpa using HR0.out, by simpa using Stb.refl L, by omega⟩, Below.refl _ _⟩
  case round =>
    obtain ⟨a, b, rfl, rfl, hb, haN, H, hbw⟩ := hrel
    have hsz := hbw.size
    obtain ⟨bs, R, h1, h2, h3, h4, h5⟩ := H.out
    by_cases hlt : b ≤ N
    · have hRA : R.take 20 ++ R.drop 20 = R := List.take_append_drop 20 R
      have lA : (R.take 20).length = 20 := by rw [List.length_take]; omega
      have lS : (R.drop 20).length + 20 = R.length := by rw [List.length_drop]; omega
      generalize R.take 20 = A at *
      generalize R.drop 20 = S at *
      subst hRA
      have hins := insertion_c g B N cap bs.flatten A S wr hg (by omega) (by rw [List.length_append] at h5; omega) hcap hn (by simpa using h3)
      rw [lA, h1, show a + 20 = b by omega] at hins
      have HINS := Lib.hid hins
      have HALL := Lib.hid (And.intro h1 (And.intro h2 (And.intro h4 (And.intro h5 lA))))
      obtain ⟨b2, hb2⟩ : ∃ b2, b2 = b + 20 := ⟨_, rfl⟩
      have ebb : (b : Int) + 20 = (b2 : Int) := by omega
      have hbb : b + 20 ≤ b2 ∧ b2 ≤ b + 20 := by omega
      clear hins h1 h2 h3 h4 h5 lA lS H hb2
      go_wp2_with (go_at_call 120; refine HINS.out.mono ?_; rintro _ w1 ⟨rfl, hr1, hb1⟩; have HC := Lib.hid hr1; have hbw := hbw.trans hb1; clear hr1 hb1; dsimp only)
      go_roundw
      case rel =>
        obtain ⟨C, r1, r2, r3, r4⟩ := HC.out
        obtain ⟨h1, h2, h4, h5, lA⟩ := HALL.out
        exact ⟨b, b2, rfl, rfl, by omega, by omega, ⟨bs ++ [C], S, by rw [List.flatten_append, List.length_append, h1]; simp; omega, h2.snoc r4 r2, by simpa using r1, Stb.trans (by simpa using Stb.append (Stb.append (Stb.refl bs.flatten) r3) (Stb.refl S)) h4, by simp at h5; omega⟩, hbw⟩
      case measure => simp [intOf]; omega
    · have hins := insertion_c g B N cap bs.flatten R [] wr hg (by omega) (by rw [List.length_nil]; omega) hcap hn (by simpa using h3)
      rw [h1, h5] at hins
      have HINS := Lib.hid hins
      have HALL := Lib.hid (And.intro h1 (And.intro h2 (And.intro h4 h5)))
      clear hins h1 h2 h3 h4 h5 H
      go_wp2_with (go_at_call 120; refine HINS.out.mono ?_; rintro _ w1 ⟨rfl, hr1, hb1⟩; have HC := Lib.hid hr1; have hbw1 := hbw.trans hb1; clear hr1 hb1; dsimp only)
      have HS : Hid (∃ D, RowL g D w1 ∧ Cut 20 D ∧ Stb D L ∧ D.length = N) := by
        show ∃ D, _
        obtain ⟨C, r1, r2, r3, r4⟩ := HC.out
        obtain ⟨h1, h2, h4, h5⟩ := HALL.out
        exact ⟨bs.flatten ++ C, by simpa using r1, ⟨bs, C, rfl, h2, r2, by omega⟩, Stb.trans (Stb.append (Stb.refl _) r3) h4, by rw [List.length_append, h1, r4, h5]⟩
      clear HC HALL HINS
      obtain ⟨wo, rfl⟩ : ∃ wo : World, wo = wr := ⟨_, rfl⟩
      clear hlt haN hsz hb
      go_loopw [6] (fun c wr => ∃ k : Nat, c = .int .i64 k ∧ 20 ≤ k ∧ k ≤ 8192 ∧ Hid (∃ D, RowL g D wr ∧ Cut k D ∧ Stb D L ∧ D.length = N) ∧ Below B w wr) (fun c _ => N - (intOf c).toNat)
      case atStart => exact ⟨20, rfl, by omega, by omega, HS, hbw1⟩
      case round =>
        clear HS hbw hbw1
        obtain ⟨k, rfl, hk1, hk2, HD, hbw⟩ := hrel
        by_cases hkn : k < N
        · obtain ⟨k2, hkk⟩ : ∃ k2, k2 = 2 * k := ⟨_, rfl⟩
          have HK := Lib.hid hkk
          have e2 : 2 * (k : Int) = (k2 : Int) := by omega
          have e3 : (k : Int) * 2 = (k2 : Int) := by omega
          have hkb : 2 * k ≤ k2 ∧ k2 ≤ 2 * k := by omega
          clear hkk
          go_wp2_with fail
          obtain ⟨wp, rfl⟩ : ∃ wp : World, wp = wr := ⟨_, rfl⟩
          go_loopw [7, 8] (fun c d wr => ∃ a b : Nat, c = .int .i64 a ∧ d = .int .i64 b ∧ (a + k2 ≤ b ∧ b ≤ a + k2) ∧ a ≤ N ∧ Hid (∃ D, RowL g D wr ∧ Half k a D ∧ Stb D L ∧ D.length = N) ∧ Below B w wr) (fun c d _ => N + k2 - (intOf d).toNat)
          case atStart => exact ⟨0, k2, rfl, rfl, by omega, by omega, (by obtain ⟨D, d1, d2, d3⟩ := HD.out; exact ⟨D, d1, d2.half, d3⟩), hbw⟩
          case round =>
            clear HD hbw
            obtain ⟨a, b, rfl, rfl, hb, haN, H, hbw⟩ := hrel
            have hsz := hbw.size
            obtain ⟨m, hm⟩ : ∃ m, m = a + k := ⟨_, rfl⟩
            have em : (a : Int) + (k : Int) = (m : Int) := by omega
            have hmm : a + k ≤ m ∧ m ≤ a + k := by omega
            have HM := Lib.hid hm
            clear hm
            obtain ⟨D, d1, d2, d3, d4⟩ := H.out
            by_cases hlt : b ≤ N
            · obtain ⟨P, A, C, S, rfl, lP, lA, lC, sA, sC, hnext⟩ := d2.two (by omega)
              have hmer := symm_c (A.length + C.length) g B N cap a m b P A C S wr (Nat.le_refl _) hg (by omega) lP.symm (by omega) (by omega) (by omega) (by omega) sA sC hlt hn d1
              have HMER := Lib.hid hmer
              have HNX := Lib.hid hnext
              have HALL := Lib.hid (And.intro d3 (And.intro d4 (And.intro lA lC)))
              obtain ⟨b2, hb2⟩ : ∃ b2, b2 = b + k2 := ⟨_, rfl⟩
              have ebb : (b : Int) + (k2 : Int) = (b2 : Int) := by omega
              have hbb : b + k2 ≤ b2 ∧ b2 ≤ b + k2 := by omega
              clear hmer hnext d1 d2 d3 d4 lP lA lC sA sC H hb2
              go_wp2_with (go_at_call 121; refine HMER.out.mono ?_; rintro _ w1 ⟨rfl, hr1, hb1⟩; have HC := Lib.hid hr1; have hbw := hbw.trans hb1; clear hr1 hb1; dsimp only)
              go_roundw
              case rel =>
                obtain ⟨D, r1, r2, r3, r4⟩ := HC.out
                obtain ⟨d3, d4, lA, lC⟩ := HALL.out
                refine ⟨b, b2, rfl, rfl, by omega, hlt, ⟨P ++ D ++ S, r1, ?_, Stb.trans (by simpa using Stb.append (Stb.append (Stb.refl P) r3) (Stb.refl S)) d3, by simp at d4 ⊢; omega⟩, hbw⟩
                have := HNX.out D r2 r4
                rw [show b = a + 2 * k by omega]
                exact this
              case measure => simp [intOf]; omega
            · by_cases hmn : m < N
              · obtain ⟨P, A, C, rfl, lP, lA, lC, sA, sC, hnext⟩ := d2.last (by omega) (by omega)
                have hmer := symm_c (A.length + C.length) g B N cap a m N P A C [] wr (Nat.le_refl _) hg (by omega) lP.symm (by omega) (by simp at d4; omega) (by omega) (by omega) sA sC (Nat.le_refl _) hn (by simpa using d1)
                have HMER := Lib.hid hmer
                have HNX := Lib.hid hnext
                have HALL := Lib.hid (And.intro d3 (And.intro d4 lA))
                clear hmer hnext d1 d2 d3 d4 lP lA lC sA sC H
                go_wp2_with (go_at_call 121; refine HMER.out.mono ?_; rintro _ w1 ⟨rfl, hr1, hb1⟩; have HC := Lib.hid hr1; have hbw := hbw.trans hb1; clear hr1 hb1; dsimp only)
                go_roundw
                case rel =>
                  obtain ⟨D, r1, r2, r3, r4⟩ := HC.out
                  obtain ⟨d3, d4, lA⟩ := HALL.out
                  refine ⟨k2, rfl, by omega, by omega, ⟨P ++ D, by simpa using r1, ?_, Stb.trans (by simpa using Stb.append (Stb.refl P) r3) d3, by simp at d4 ⊢; omega⟩, hbw⟩
                  rw [HK.out]; exact HNX.out D r2 r4
                case measure => simp [intOf]; omega
              · have hc : Cut k2 D := by rw [HK.out]; exact d2.still (by omega) (by omega)
                have HC : Hid (∃ D, RowL g D wr ∧ Cut k2 D ∧ Stb D L ∧ D.length = N) := ⟨D, d1, hc, d3, d4⟩
                clear d1 d2 d3 d4 H hc
                go_wp2_with fail
                go_roundw
                case rel => exact ⟨k2, rfl, by omega, by omega, HC, hbw⟩
                case measure => simp [intOf]; omega
        · have HE : Hid (∃ D, RowL g D wr ∧ SortedN D ∧ Stb D L ∧ D.length = L.length) := by
            show ∃ D, _
            obtain ⟨D, d1, d2, d3, d4⟩ := HD.out
            exact ⟨D, d1, d2.done (by omega), d3, by omega⟩
          clear HD
          go_wp2_with fail
          go_end0
          exact ⟨rfl, HE.out, hbw⟩
theorem sortStable_c (g B N cap : Nat) (L : List Lab) (w : World) (hg : B ≤ g) (hB : B ≤ w.heap.size) (hN : L.length = N) (hcap : N ≤ cap) (hn : N ≤ 4096) (hr : RowL g L w) :
    Calls Tryd.prog 79 #[.slice (some ⟨g, 0, none⟩) N cap, .func (.func 80) #[] #[]] w fun e w' => e = .returned (.tuple #[]) ∧ (∃ D, RowL g D w' ∧ SortedN D ∧ Stb D L ∧ D.length = L.length) ∧ Below B w w' := by
  have HST := Lib.hid (stable_c g B N cap L w hg hB hN hcap hn hr)
  clear hN hr
  go_enter Tryd.func79, Tryd.ntmps79
  go_wp2_with (go_at_call 105; refine HST.out.mono ?_; rintro _ w1 ⟨rfl, hr1, hb1⟩; have HC := Lib.hid hr1; dsimp only)
  go_end0
  exact ⟨rfl, HC.out, hb1⟩
end Go.Proofs.YtdbifbgjbfnfmaaDoor
/-
  Layer 4 (label): what the program's Sort returns; all that was in memory stays.
-/
namespace Go.Proofs.YtdbifbgjbfnfmaaDoor
open Go.RowKit Go.Deep
attribute [local go_sem] str_size str_append str_toList str_get str_extract
set_option linter.unusedVariables false
set_option linter.unusedSimpArgs false
theorem ownLtS {w : World} {base : Nat} {e : TypeId} {size : Nat} {v : Value} {n : Nat} {xs : List Value} (h : w.ownsRow base e size v n xs) : ∀ k, v.ownBlock = some k → k < w.heap.size := by
  intro k hk
  rcases h.2 with ⟨rfl, _⟩ | ⟨g, c, cur, rfl, _, hg, _⟩
  · simp [Value.ownBlock] at hk
  · simp [Value.ownBlock] at hk
    subst hk
    exact lt_of_block hg
theorem labC_take {l : List Lab} {i : Nat} (h : i < l.length) {x : Lab} (hx : l[i]'h = x) : labC (l.take (i + 1)) = labC (l.take i) ++ [.string (str x.1), .string (str x.2)] := by
  rw [List.take_succ_eq_append_getElem h, labC_append, hx]; rfl
/-- A row of the call's own, as block and labels. -/
theorem own_rowL {B g : Nat} {n cap : Nat} {l : List Lab} {w : World} (h : w.ownsRow B 60 2 (.slice (some ⟨g, 0, none⟩) n cap) n (labC l)) (hn : n = l.length) : RowL g l w ∧ B ≤ g ∧ n ≤ cap := by
  rcases h.2 with ⟨e, _⟩ | ⟨g', c, cur, e, hB, hg, h1, h2, h3, h4⟩
  · cases e
  · injection e with e1 e2 e3
    injection e1 with e1
    injection e1 with e1
    subst e1 e3
    have hlen : (labC l).length = 2 * l.length := labC_length l
    have hat := fun i (hi : i < l.length) => labC_get l i hi
    refine ⟨⟨cur, hg, by omega, fun i hi => ?_⟩, hB, h1⟩
    have hc := hat i hi
    rw [← h4] at hc
    simp only [List.getElem?_take, Array.getElem?_toList] at hc
    rw [if_pos (by omega), if_pos (by omega)] at hc
    exact hc
theorem rowL_lat {g : Nat} {l : List Lab} {w : World} (h : RowL g l w) (hs : ∀ x ∈ l, x.1.length ≤ 9223372036854775807 ∧ x.2.length ≤ 9223372036854775807) : LAt w (some ⟨g, 0, none⟩) l.length l := by
  obtain ⟨cur, h1, h2, h3⟩ := h
  refine ⟨rfl, fun i hi => ⟨hs _ (List.getElem_mem hi), _, rfl, ?_⟩⟩
  have ea : (⟨g, 0, none⟩ : Addr).add (i * 2) = ⟨g, 2 * i, none⟩ := by
    unfold Addr.add
    split <;> simp_all <;> omega
  rw [ea]
  exact ⟨lt_of_block h1, (blk_cell h1 _).trans (h3 i hi).1, (blk_cell h1 _).trans (h3 i hi).2⟩
set_option maxHeartbeats 1000000 in
theorem sortRow_c (A : Option Addr) (len cap : Nat) (l : List Lab) (w : World) (hl : l.length ≤ 4096) (hA : LAt w A len l) (hz : ∀ x ∈ l, x.1.length ≤ 4096 ∧ x.2.length ≤ 4096) :
    Calls Tryd.prog 56 #[.slice A len cap] w fun e w' => (∃ g cap', e = .returned (.slice (some ⟨g, 0, none⟩) l.length cap') ∧ w.heap.size ≤ g ∧ RowL g (sortL l) w') ∧ Below w.heap.size w w' := by
  have hle := hA.1
  subst hle
  obtain ⟨i0, hi0, hz0, hz1, hz2⟩ := info_parts lab_info
  go_enter Tryd.func56, Tryd.ntmps56
  go_wp2_with (at_make; refine wpList_make_own _ rfl _ _ 23 rfl w.heap.size 60 i0 _ 2 Tryd.underlying23 hi0 hz0 hz1 .i64 .i64 _ l.length rfl rfl rfl (by rw [hz2]; omega) (by unfold maxLen; omega) (Nat.le_refl _) ?_; intro w1 hown1 hg1; dsimp only)
  have hb1 : Below w.heap.size w w1 := (Below.refl _ w).grown hg1 (Nat.le_refl _) (by intro k hk; cases hk)
  clear hg1
  obtain ⟨wo, rfl⟩ : ∃ wo : World, wo = w1 := ⟨_, rfl⟩
  go_loopw [3, 11] (fun v c wr => ∃ i : Nat, i ≤ l.length ∧ c = .int .i64 i ∧ (∃ g cp, v = .slice (some ⟨g, 0, none⟩) i cp) ∧ wr.ownsRow w.heap.size 60 2 v i (labC (l.take i)) ∧ Below w.heap.size w wr) (fun _ c _ => l.length - (intOf c).toNat)
  case atStart => exact ⟨0, Nat.zero_le _, rfl, ⟨_, _, rfl⟩, hown1, hb1⟩
  case round =>
    obtain ⟨i, hi, rfl, ⟨g, cp, rfl⟩, hown, hb⟩ := hrel
    have hsz := hb.size
    by_cases hlt : i < l.length
    · obtain ⟨-, ad, rfl, h2, h3, h4⟩ := (hA.below hb).2 i hlt
      obtain ⟨z1, z2⟩ := hz _ (List.getElem_mem hlt)
      obtain ⟨x, hx⟩ : ∃ x, l[i]'hlt = x := ⟨_, rfl⟩
      have hst := labC_take hlt hx
      rw [hx] at h3 h4 z1 z2
      obtain ⟨n, v1⟩ := x
      simp only at hst h3 h4 z1 z2
      have HST := Lib.hid hst
      have c1 := fun W => lclone_c n W (by omega)
      have c2 := fun W => lclone_c v1 W (by omega)
      have hq0 := blk_new wr (.cells #[.string (str n), .string (str v1)] 60)
      have hba : Below w.heap.size w (wr.alloc (.cells #[.string (str n), .string (str v1)] 60)) := hb.alloc hsz _
      have hsa : w.heap.size ≤ (wr.alloc (.cells #[.string (str n), .string (str v1)] 60)).heap.size := by simp; omega
      have hlb : wr.heap.size < (wr.alloc (.cells #[.string (str n), .string (str v1)] 60)).heap.size := by simp
      have HO := Lib.hid (hown.alloc (.cells #[.string (str n), .string (str v1)] 60))
      have hlow := Lib.hid (ownLow hown)
      have hlt1 := Lib.hid (ownLtS hown)
      clear hst hx hown
      have d0 := blk_cell hq0 0
      have d1 := blk_cell hq0 1
      simp only [List.getElem?_toArray, List.getElem?_cons_zero, List.getElem?_cons_succ] at d0 d1
      have hf : ∀ W, Below (wr.alloc (.cells #[.string (str n), .string (str v1)] 60)).heap.size (wr.alloc (.cells #[.string (str n), .string (str v1)] 60)) W → W.cell? ⟨wr.heap.size, 0, none⟩ = some (.string (str n)) ∧ W.cell? ⟨wr.heap.size, 1, none⟩ = some (.string (str v1)) ∧ True := fun W hW => ⟨(hW.cell (p := ⟨wr.heap.size, 0, none⟩) hlb).trans d0, (hW.cell (p := ⟨wr.heap.size, 1, none⟩) hlb).trans d1, trivial⟩
      have HF := Lib.hid hf
      clear hf
      go_wp2_with fail
      refine wp_region_held_drew (S := fun w' => w'.cell? ⟨wr.heap.size, 0, none⟩ = some (.string (str n)) ∧ w'.cell? ⟨wr.heap.size, 1, none⟩ = some (.string (str v1)) ∧ True) (by kernel_rfl) ⟨d0, d1, trivial⟩ (fun hHeld => ?_)
      refine held_w (i := 0) (d := some 15) (v := ?_) rfl (by kernel_rfl) (by kernel_rfl) (by kernel_rfl) (fun _ _ _ h => h) (by rfl) ?_ hHeld ?_
      rotate_left
      · intro w' hSw; obtain ⟨q0, q1, q2⟩ := hSw; simp only [List.getElem?_toArray, List.getElem?_cons_zero, List.getElem?_cons_succ]; go_simp; try with_reducible rfl
      try simp only [Act.put, List.setIfInBounds_toArray, List.set_cons_zero, List.set_cons_succ]
      refine held_w (i := 1) (d := some 16) (v := ?_) rfl (by kernel_rfl) (by kernel_rfl) (by kernel_rfl) (fun _ _ _ h => h) (by rfl) ?_ hHeld ?_
      rotate_left
      · intro w' hSw; obtain ⟨q0, q1, q2⟩ := hSw; simp only [List.getElem?_toArray, List.getElem?_cons_zero, List.getElem?_cons_succ]; go_simp; try with_reducible rfl
      try simp only [Act.put, List.setIfInBounds_toArray, List.set_cons_zero, List.set_cons_succ]
      refine held_w (i := 2) (d := some 17) (v := ?_) rfl (by kernel_rfl) (by kernel_rfl) (by kernel_rfl) (fun _ _ _ h => h) (by rfl) ?_ hHeld ?_
      rotate_left
      · intro w' hSw; obtain ⟨q0, q1, q2⟩ := hSw; simp only [List.getElem?_toArray, List.getElem?_cons_zero, List.getElem?_cons_succ]; go_simp; try with_reducible rfl
      try simp only [Act.put, List.setIfInBounds_toArray, List.set_cons_zero, List.set_cons_succ]
      refine held_w (i := 4) (d := some 19) (v := ?_) rfl (by kernel_rfl) (by kernel_rfl) (by kernel_rfl) (fun _ _ _ h => h) (by rfl) ?_ hHeld ?_
      rotate_left
      · intro w' hSw; obtain ⟨q0, q1, q2⟩ := hSw; simp only [List.getElem?_toArray, List.getElem?_cons_zero, List.getElem?_cons_succ]; go_simp; try with_reducible rfl
      try simp only [Act.put, List.setIfInBounds_toArray, List.set_cons_zero, List.set_cons_succ]
      refine held_w (i := 5) (d := some 20) (v := ?_) rfl (by kernel_rfl) (by kernel_rfl) (by kernel_rfl) (fun _ _ _ h => h) (by rfl) ?_ hHeld ?_
      rotate_left
      · intro w' hSw; obtain ⟨q0, q1, q2⟩ := hSw; simp only [List.getElem?_toArray, List.getElem?_cons_zero, List.getElem?_cons_succ]; go_simp; try with_reducible rfl
      try simp only [Act.put, List.setIfInBounds_toArray, List.set_cons_zero, List.set_cons_succ]
      refine held_c (i := 3) (by kernel_rfl) (by rfl) (fun K hK => ?_)
      simp only [List.getElem?_toArray, List.getElem?_cons_zero, List.getElem?_cons_succ]
      go_simp
      refine (c1 _).mono ?_
      rintro e w2 ⟨rfl, hb2⟩
      have hbA := below_of_drew hb2
      refine hK.out _ _ (HF.out _ hbA) (fun hHeld => ?_)
      clear hK K hb2
      try simp only [Act.put, List.setIfInBounds_toArray, List.set_cons_zero, List.set_cons_succ]
      refine held_c (i := 6) (by kernel_rfl) (by rfl) (fun K hK => ?_)
      simp only [List.getElem?_toArray, List.getElem?_cons_zero, List.getElem?_cons_succ]
      go_simp
      refine (c2 _).mono ?_
      rintro e w3 ⟨rfl, hb3⟩
      have hbB := below2 hbA hb3 hbA.size
      refine hK.out _ _ (HF.out _ hbB) (fun hHeld => ?_)
      clear hK K hb3
      try simp only [Act.put, List.setIfInBounds_toArray, List.set_cons_zero, List.set_cons_succ]
      refine held_w (i := 7) (d := some 22) (v := ?_) rfl (by kernel_rfl) (by kernel_rfl) (by kernel_rfl) (fun _ _ _ h => h) (by rfl) ?_ hHeld ?_
      rotate_left
      · intro w' hSw; obtain ⟨q0, q1, q2⟩ := hSw; simp only [List.getElem?_toArray, List.getElem?_cons_zero, List.getElem?_cons_succ]; go_simp; try with_reducible rfl
      try simp only [Act.put, List.setIfInBounds_toArray, List.set_cons_zero, List.set_cons_succ]
      refine held_c (i := 8) (by kernel_rfl) (by rfl) (fun K hK => ?_)
      simp only [List.getElem?_toArray, List.getElem?_cons_zero, List.getElem?_cons_succ]
      go_simp
      have hbC := hbB.alloc hbB.size (.cells #[.string (str n), .string (str v1)] 60)
      have HO3 := Lib.hid (((Keeps.below (F := []) hbB).row HO.out (by simp)).alloc (.cells #[.string (str n), .string (str v1)] 60))
      refine hK.out _ _ (HF.out _ hbC) (fun hHeld => ?_)
      clear hK K
      try simp only [Act.put, List.setIfInBounds_toArray, List.set_cons_zero, List.set_cons_succ]
      refine held_c (i := 9) (by kernel_rfl) (by rfl) (fun K hK => ?_)
      simp only [List.getElem?_toArray, List.getElem?_cons_zero, List.getElem?_cons_succ]
      refine wp_append_lies _ (.tmp 15) (.tmp 23) 23 rfl w.heap.size 60 i0 (.agg #[.string (str []), .string (str [])]) 2 32 Tryd.underlying23 hi0 hz0 hz1 hz2 rfl (by decide) _ i (labC (l.take i)) rfl HO3.out ⟨w3.heap.size, 0, none⟩ 1 1 [.string (str n), .string (str v1)] rfl rfl (cells_two_new _ _ _ _) (by intro u hu; simp at hu; rcases hu with rfl | rfl <;> rfl) (by decide) (by unfold maxLen; omega) (by omega) (by have := hbC.size; omega) _ rfl ?_
      intro g1 cap1 w4 hown1 hg1 _ hl1
      have hb4 : Below w.heap.size w w4 := (hba.trans (hbC.mono hsa)).grown hg1 (by have := hbC.size; omega) hlow.out
      have hcf : ∀ k, w4.cell? ⟨wr.heap.size, k, none⟩ = _ := fun k => hg1.cell_far ⟨wr.heap.size, k, none⟩ (by have := hbC.size; simp at this ⊢; omega) (fun e => by have := hlt1.out _ e.symm; simp at this)
      have hown2 := hown1
      rw [← HST.out] at hown2
      have HW := Lib.hid (And.intro hown2 hb4)
      refine hK.out _ _ ⟨(hcf 0).trans (HF.out _ hbC).1, (hcf 1).trans (HF.out _ hbC).2.1, trivial⟩ (fun hHeld => ?_)
      clear hK K hown1 hown2 hg1 hb4 hcf
      try simp only [Act.put, List.setIfInBounds_toArray, List.set_cons_zero, List.set_cons_succ]
      refine held_w (i := 10) (d := some 3) (v := ?_) rfl (by kernel_rfl) (by kernel_rfl) (by kernel_rfl) (fun _ _ _ h => h) (by rfl) ?_ hHeld ?_
      rotate_left
      · intro w' hSw; obtain ⟨q0, q1, q2⟩ := hSw; simp only [List.getElem?_toArray, List.getElem?_cons_zero, List.getElem?_cons_succ]; go_simp; try with_reducible rfl
      try simp only [Act.put, List.setIfInBounds_toArray, List.set_cons_zero, List.set_cons_succ]
      refine wpAnyH_done (by kernel_rfl) ?_ _
      go_wp2_with fail
      go_roundw
      case rel => exact ⟨i + 1, by omega, by go_num, ⟨_, _, rfl⟩, HW.out.1, HW.out.2⟩
      case measure => simp [intOf]; omega
    · obtain rfl : i = l.length := by omega
      rw [List.take_length] at hown
      obtain ⟨r1, r2, r3⟩ := own_rowL hown rfl
      have hsort := fun W hW => sortStable_c g w.heap.size l.length cp l W r2 hW rfl r3 hl
      have hs9 : ∀ x ∈ l, x.1.length ≤ 9223372036854775807 ∧ x.2.length ≤ 9223372036854775807 := fun x hx => by have := hz x hx; omega
      have HS9 := Lib.hid hs9
      have R1 := Lib.hid r1
      clear r1 hown hs9
      go_wp2_with (go_at_call 79; refine (hsort _ hsz R1.out).mono ?_; rintro _ w2 ⟨rfl, hD, hb2⟩; have HD := Lib.hid hD; clear hD; dsimp only)
      go_ret
      refine ⟨⟨_, _, rfl, r2, ?_⟩, hb.trans hb2⟩
      obtain ⟨D, d1, d2, d3, d4⟩ := HD.out
      have e := sortL_eq d2 d3
      rw [e] at d1
      exact d1
theorem sort_c (A : Option Addr) (len cap : Nat) (l : List Lab) (w : World) (hl : l.length ≤ 4096) (hA : LAt w A len l) (hz : ∀ x ∈ l, x.1.length ≤ 4096 ∧ x.2.length ≤ 4096) :
    Calls Tryd.prog 56 #[.slice A len cap] w fun e w' => (∃ A' cap', e = .returned (.slice A' l.length cap') ∧ LAt w' A' l.length (sortL l)) ∧ Below w.heap.size w w' := by
  refine (sortRow_c A len cap l w hl hA hz).mono ?_
  rintro e w' ⟨⟨g, c, rfl, _, hR⟩, hb⟩
  refine ⟨⟨_, c, rfl, ?_⟩, hb⟩
  have := rowL_lat hR (fun x hx => by have := hz x ((sortL_stb l).mem hx); omega)
  rwa [sortL_length] at this
end Go.Proofs.YtdbifbgjbfnfmaaDoor
/-
  A text that is built piece by piece (strings.Builder): what its writer and its reader do at a builder of the call's own.
-/
namespace Go.Proofs.YtdbifbgjbfnfmaaDoor
open Go.RowKit Go.Deep
attribute [local go_sem] str_size str_append str_toList str_get str_extract
set_option linter.unusedVariables false
set_option linter.unusedSimpArgs false
theorem bd_info : ∃ j, Tryd.prog.info? 80 = some j ∧ j.size ≠ 0 := by
  have h : (Tryd.prog.info? 80).map (fun j => decide (j.size ≠ 0)) = some true := by kernel_rfl
  cases hj : Tryd.prog.info? 80 with
  | none => rw [hj] at h; cases h
  | some j => rw [hj] at h; exact ⟨j, rfl, by simpa using h⟩
/-- Block b is a builder that holds the bytes l; its row lies from block B on. -/
def Bd (B b : Nat) (l : List UInt8) (w : World) : Prop :=
  B ≤ b ∧ ∃ p v, (p = .pointer none ∨ p = .pointer (some ⟨b, 0, none⟩)) ∧ w.heap[b]? = some (.cells #[p, v] 80 (0, 0)) ∧ w.ownsRow B 5 1 v l.length (l.map fun c => .int .u8 (c.toNat : Int)) ∧ v.ownBlock ≠ some b
theorem Bd.fresh (w : World) : Bd w.heap.size w.heap.size [] (w.alloc (.cells #[.pointer none, .slice none 0 0] 80)) :=
  ⟨Nat.le_refl _, _, _, .inl rfl, blk_new _ _, ⟨rfl, .inl ⟨rfl, rfl⟩⟩, by simp [Value.ownBlock]⟩
theorem strCells_str (s : List UInt8) : Lib.strCells (str s) = s.map fun c => .int .u8 (c.toNat : Int) := by unfold Lib.strCells; rw [str_data]
theorem copyCheck_c (b : Nat) (p v : Value) (w : World) (hp : p = .pointer none ∨ p = .pointer (some ⟨b, 0, none⟩)) (hb : w.heap[b]? = some (.cells #[p, v] 80 (0, 0))) :
    Calls Tryd.prog 69 #[.pointer (some ⟨b, 0, none⟩)] w fun e w' => e = .returned (.tuple #[]) ∧ (w' = w ∨ w' = w.setCell ⟨b, 0, none⟩ (.pointer (some ⟨b, 0, none⟩))) ∧ w'.heap[b]? = some (.cells #[.pointer (some ⟨b, 0, none⟩), v] 80 (0, 0)) := by
  obtain ⟨j, hj, hjs⟩ := bd_info
  have h0 := blk_cell hb 0
  have hf := blk_free hb 0
  simp only [List.getElem?_toArray, List.getElem?_cons_zero] at h0
  rcases hp with rfl | rfl
  · have hsh : w.shape? b = some (80, 2) := by simp [World.shape?, hb]
    have hu := Lib.run_to_unsafe (P := Tryd.prog) (dst := 131) w ⟨b, 0, none⟩ Tryd.underlying77 Tryd.underlying131 hj hjs hsh (Nat.zero_lt_succ 1)
    have hn := fun (W : World) (x : Value) => run_callFunc_extern (P := Tryd.prog) (w := W) (args := #[x]) Tryd.func99 (by kernel_rfl) (by kernel_rfl) (by kernel_rfl) (e := Extern.AbiNoEscape.same) (by kernel_rfl)
    simp only [Lib.run_noEscape] at hn
    have hv := Lib.run_from_unsafe (P := Tryd.prog) w ⟨b, 0, none⟩ Tryd.underlying131 Tryd.underlying77 hj hsh (by kernel_rfl)
    go_enter Tryd.func69, Tryd.ntmps69
    go_wp2_with fail
    go_end0
    refine ⟨rfl, .inr rfl, ?_⟩
    have h := blk_set hb 0 (.pointer (some ⟨b, 0, none⟩))
    simpa using h
  · have hq := Lib.run_neq_ptr_same (P := Tryd.prog) w ⟨b, 0, none⟩ Tryd.underlying77 hj
    go_enter Tryd.func69, Tryd.ntmps69
    go_wp2_with fail
    go_end0
    exact ⟨rfl, .inl rfl, hb⟩
theorem writeString_c (B b : Nat) (l s : List UInt8) (w : World) (h : Bd B b l w) (hB : B ≤ w.heap.size) (hlen : l.length + s.length ≤ 4294967296) :
    Calls Tryd.prog 42 #[.pointer (some ⟨b, 0, none⟩), .string (str s)] w fun e w' => e = .returned (.tuple #[.int .i64 s.length, .nilIface]) ∧ Bd B b (l ++ s) w' ∧ Below B w w' ∧ ∀ (k : Nat) (cs : Array Value) (T : TypeId), T ≠ 80 → T ≠ 5 → w.heap[k]? = some (Obj.cells cs T (0, 0)) → w'.heap[k]? = some (Obj.cells cs T (0, 0)) := by
  obtain ⟨i0, hi0, hz0, hz1, hz2⟩ := info_parts byte_info
  obtain ⟨hBb, p, v, hp, hb, hown, hne⟩ := h
  have HP := Lib.hid hp
  have c1 := copyCheck_c b p v w hp hb
  have hbl := lt_of_block hb
  have hlow := ownLow hown
  clear hp
  go_enter Tryd.func42, Tryd.ntmps42
  go_wp2_with (go_at_call 69; refine c1.mono ?_)
  rintro e w1 ⟨rfl, hw1, hb1⟩
  have hbel : Below B w w1 := by
    rcases hw1 with rfl | rfl
    · exact Below.refl _ _
    · exact (Below.refl _ w).setCell (p := ⟨b, 0, none⟩) hBb _
  have hown1 : w1.ownsRow B 5 1 v l.length (l.map fun c => .int .u8 (c.toNat : Int)) := by
    rcases hw1 with rfl | rfl
    · exact hown
    · exact row_set (p := ⟨b, 0, none⟩) hown hne _
  have d0 := blk_cell hb1 0
  have d1 := blk_cell hb1 1
  simp only [List.getElem?_toArray, List.getElem?_cons_zero, List.getElem?_cons_succ] at d0 d1
  have HO := Lib.hid hown1
  have hkeep1 : ∀ (k : Nat) (cs : Array Value) (T : TypeId), T ≠ 80 → T ≠ 5 → w.heap[k]? = some (Obj.cells cs T (0, 0)) → w1.heap[k]? = some (.cells cs T (0, 0)) := by
    intro k cs T h1 h2 hk
    have hkb : k ≠ b := blk_apart hk hb h1
    rcases hw1 with rfl | rfl
    · exact hk
    · exact blk_far hk (p := ⟨b, 0, none⟩) hkb _
  have HK1 := Lib.hid hkeep1
  have hsz := hbel.size
  clear hw1 c1 hown hown1 hkeep1
  go_wp2_with (at_builtin; refine Lib.wpList_append_own_string _ rfl (.tmp 12) (.tmp 13) 78 9 rfl B 5 i0 Tryd.underlying78 Tryd.underlying9 hi0 hz0 hz1 hz2 v l.length _ rfl HO.out (str s) rfl ?c3 ?c4 ?c5 ?c6)
  case c3 => rw [str_size]; unfold maxLen; omega
  case c4 => rw [str_size]; omega
  case c5 => omega
  case c6 =>
    intro v' w2 hown2 hg2 _
    rw [strCells_str, ← List.map_append] at hown2
    have hb2 : w2.heap[b]? = some (.cells #[.pointer (some ⟨b, 0, none⟩), v] 80 (0, 0)) := (hg2.block b (lt_of_block hb1) (fun e => hne e.symm)).trans hb1
    have f0 := blk_cell hb2 0
    have f1 := blk_cell hb2 1
    have f2 := blk_free hb2 1
    simp only [List.getElem?_toArray, List.getElem?_cons_zero, List.getElem?_cons_succ] at f0 f1
    obtain ⟨ao, n', cap, rfl⟩ : ∃ ao n' cap, v' = .slice ao n' cap := by
      rcases hown2.2 with ⟨e, _⟩ | ⟨g, cap, cur, e, _⟩
      · exact ⟨_, _, _, e⟩
      · exact ⟨_, _, _, e⟩
    go_wp2_with fail
    go_ret2
    have hb3 := blk_set hb2 1 (.slice ao n' cap)
    have hne3 : (Value.slice ao n' cap).ownBlock ≠ some b := fun e => row_apart hown2 hb2 (by decide) b e rfl
    refine ⟨rfl, ⟨hBb, _, _, .inr rfl, by simpa using hb3, ?_, hne3⟩, ?_, ?_⟩
    · have h := row_set (p := ⟨b, 1, none⟩) hown2 hne3 (.slice ao n' cap)
      rw [List.length_append]
      exact h
    · exact (hbel.grown hg2 (by omega) hlow).setCell (p := ⟨b, 1, none⟩) hBb _
    · intro k cs T h1 h2 hk
      have hk1 := HK1.out k cs T h1 h2 hk
      have hkb : k ≠ b := blk_apart hk1 hb1 h1
      have hkv : v.ownBlock ≠ some k := fun e => row_apart HO.out hk1 (Ne.symm h2) k e rfl
      exact blk_far ((hg2.block k (lt_of_block hk1) (fun e => hkv e.symm)).trans hk1) (p := ⟨b, 1, none⟩) hkb _
/-- What it has become. -/
theorem string_c (B b : Nat) (l : List UInt8) (w : World) (h : Bd B b l w) (hB : B ≤ w.heap.size) :
    Calls Tryd.prog 46 #[.pointer (some ⟨b, 0, none⟩)] w fun e w' => e = .returned (.string (str l)) ∧ Below B w w' := by
  obtain ⟨hBb, p, v, hp, hb, hown, hne⟩ := h
  have e : Lib.byteCells l = l.map fun c => .int .u8 (c.toNat : Int) := rfl
  have hI : Lib.IsBuilder 80 5 B b (Lib.byteCells l) w := by
    rcases hp with rfl | rfl
    · exact .inl ⟨hBb, v, hb, by rw [e, List.length_map]; exact hown, hne⟩
    · exact .inr ⟨hBb, v, hb, by rw [e, List.length_map]; exact hown, hne⟩
  exact Tryd.Builder_String_any B b l w hI hB
/-- A builder stays one while what lies elsewhere changes. -/
theorem Bd.keeps {B b : Nat} {l : List UInt8} {w w' : World} (h : Bd B b l w) (hb : Below w.heap.size w w') : Bd B b l w' := by
  obtain ⟨hBb, p, v, hp, hk, hown, hne⟩ := h
  exact ⟨hBb, p, v, hp, (hb.block b (lt_of_block hk)).trans hk, (Keeps.below (F := []) hb).row hown (by simp), hne⟩
end Go.Proofs.YtdbifbgjbfnfmaaDoor
/-
  Layer 4 (label): what Key returns, the program's and the document's; all that was in memory stays.
-/
namespace Go.Proofs.YtdbifbgjbfnfmaaDoor
open Go.RowKit Go.Deep
attribute [local go_sem] str_size str_append str_toList str_get str_extract
set_option linter.unusedVariables false
set_option linter.unusedSimpArgs false
set_option maxHeartbeats 1000000 in
theorem key_c (A : Option Addr) (len cap : Nat) (l : List Lab) (w : World) (hl : len ≤ 140737488355328) (hA : LAt w A len l) (hz : ∀ x ∈ l, x.1.length ≤ 4096 ∧ x.2.length ≤ 4096) (hT : Lib.Utf8Tabs 1 2 w) :
    Calls Tryd.prog 34 #[.slice A len cap] w fun e w' => e = .returned (.tuple #[.string (str (if okL l = true then keyL l else [])), .int .i64 (eOf (okL l))]) ∧ Below w.heap.size w w' := by
  have c0 := fun W h1 h2 => check_c A len cap l W hl h1 (fun x hx => by have := hz x hx; omega) h2
  have hle := hA.1
  subst hle
  cases hO : okL l with
  | false =>
    rw [hO] at c0
    go_enter Tryd.func34, Tryd.ntmps34
    go_wp2_with fail
    refine (c0 _ hA hT).mono ?_
    rintro e w1 ⟨rfl, hb1⟩
    go_wp2_with fail
    go_ret2
    exact ⟨rfl, hb1⟩
  | true =>
  rw [hO] at c0
  have hl8 := okL_len hO
  have hp32 := okL_32 hO
  obtain ⟨R, hR⟩ : ∃ R, keyL l = R := ⟨_, rfl⟩
  rw [if_pos rfl, hR]
  have HR := Lib.hid hR
  have HP := Lib.hid hp32
  clear hR hp32 hO
  go_enter Tryd.func34, Tryd.ntmps34
  go_wp2_with fail
  refine (c0 _ hA hT).mono ?_
  rintro e w1 ⟨rfl, hb1⟩
  have e0 : eOf true = 0 := rfl
  rw [e0]
  have hs1 := hb1.size
  clear c0 e0
  go_wp2_with fail
  obtain ⟨wo, rfl⟩ : ∃ wo : World, wo = w1 := ⟨_, rfl⟩
  go_loopw [15] (fun c wr => ∃ i : Nat, i ≤ l.length ∧ c = .int .i64 i ∧ Bd wo.heap.size wo.heap.size (keyL (l.take i)) wr ∧ Below wo.heap.size wo wr) (fun c _ => l.length - (intOf c).toNat)
  case atStart => exact ⟨0, Nat.zero_le _, rfl, Bd.fresh wo, (Below.refl _ _).alloc (Nat.le_refl _) _⟩
  case round =>
    obtain ⟨i, hi, rfl, hbd, hb0⟩ := hrel
    have hb : Below w.heap.size w wr := hb1.trans (hb0.mono hs1)
    have hsz0 := hb0.size
    by_cases hlt : i < l.length
    · obtain ⟨-, ad, rfl, h2, h3, h4⟩ := (hA.below hb).2 i hlt
      have hst := keyL_take hlt
      have hkl := keyL_len (l := l.take i) (fun x hx => HP.out x (List.mem_of_mem_take hx))
      rw [List.length_take] at hkl
      obtain ⟨z1, z2⟩ := HP.out _ (List.getElem_mem hlt)
      obtain ⟨x, hx⟩ : ∃ x, l[i]'hlt = x := ⟨_, rfl⟩
      rw [hx] at hst h3 h4 z1 z2
      obtain ⟨n, v1⟩ := x
      simp only at hst h3 h4 z1 z2
      have HST := Lib.hid hst
      have t1 := tx_len_le n z1
      have t2 := tx_len_le v1 z2
      have c1 := fun W => text_c n W (by omega)
      have c2 := fun W => text_c v1 W (by omega)
      obtain ⟨K, hK⟩ : ∃ K, keyL (l.take i) = K := ⟨_, rfl⟩
      rw [hK] at hbd hkl HST
      obtain ⟨X1, hX1⟩ : ∃ X1, tx n = X1 := ⟨_, rfl⟩
      obtain ⟨X2, hX2⟩ : ∃ X2, tx v1 = X2 := ⟨_, rfl⟩
      rw [hX1] at HST t1 c1
      rw [hX2] at HST t2 c2
      have hkl2 : K.length ≤ 700 := by omega
      have hq0 := blk_new wr (.cells #[.string (str n), .string (str v1)] 60)
      have hqb : Below wr.heap.size wr (wr.alloc (.cells #[.string (str n), .string (str v1)] 60)) := (Below.refl _ _).alloc (Nat.le_refl _) _
      have hbd0 := hbd.keeps hqb
      have hqs : wr.heap.size < (wr.alloc (.cells #[.string (str n), .string (str v1)] 60)).heap.size := by simp
      have hbr := hb0.trans (hqb.mono hsz0)
      clear hst hx hK hX1 hX2 hkl
      go_wp2_with (go_at_call 45; refine (c1 _).mono ?_; rintro e w2 ⟨rfl, hb2⟩)
      have hbd2 := hbd0.keeps hb2
      have hq2 := (hb2.block _ hqs).trans hq0
      have hs2 := hb2.size
      have hbr2 := hbr.trans (hb2.mono (by omega))
      go_wp2_with (go_at_call 42; refine (writeString_c wo.heap.size wo.heap.size K X1 _ hbd2 (by omega) (by omega)).mono ?_)
      rintro e w3 ⟨rfl, hbd3, hb3, hk3⟩
      have hq3 := hk3 _ _ _ (by decide) (by decide) hq2
      have hs3 := hb3.size
      have hbr3 := hbr2.trans hb3
      have f1 := blk_cell hq3 1
      simp only [List.getElem?_toArray, List.getElem?_cons_zero, List.getElem?_cons_succ] at f1
      clear hbd hbd0 hbd2 hb2 hbr hbr2 hk3 hb3 hq2 hq0 hqb
      go_wp2_with (go_at_call 45; refine (c2 _).mono ?_; rintro e w4 ⟨rfl, hb4⟩)
      have hbd4 := hbd3.keeps hb4
      have hs4 := hb4.size
      have hbr4 := hbr3.trans (hb4.mono (by have := hbr3.size; omega))
      have hs0 : wo.heap.size ≤ w4.heap.size := hbr4.size
      go_wp2_with (go_at_call 42; refine (writeString_c wo.heap.size wo.heap.size (K ++ X1) X2 _ hbd4 hs0 (by rw [List.length_append]; omega)).mono ?_)
      rintro e w5 ⟨rfl, hbd5, hb5, -⟩
      rw [List.append_assoc, ← HST.out] at hbd5
      have hbr5 := hbr4.trans hb5
      clear hbd3 hbd4 hb4 hbr3 hbr4 hb5
      go_wp2_with fail
      go_roundw
      case rel => exact ⟨i + 1, by omega, by go_num, hbd5, hbr5⟩
      case measure => simp [intOf]; omega
    · obtain rfl : i = l.length := by omega
      rw [List.take_length, HR.out] at hbd
      go_wp2_with (go_at_call 46; refine (string_c wo.heap.size wo.heap.size R _ hbd hsz0).mono ?_)
      rintro e w3 ⟨rfl, hb3⟩
      go_wp2_with fail
      go_ret2
      exact ⟨rfl, hb.trans (hb3.mono hs1)⟩
end Go.Proofs.YtdbifbgjbfnfmaaDoor
/-
  Layer 7 (index): postings, plain: who has a value of a name; what comes of them. No program is named.
-/
namespace Go.Proofs.YtdbifbgjbfnfmaaDoor
set_option linter.unusedVariables false
set_option linter.unusedSimpArgs false

/-- Who has which value of which name, in the order in which they came. -/
abbrev Pst := List (Txt × Txt × Nat)
def idsP (P : Pst) (n v : Txt) : List Int := (P.filter fun x => decide (x.1 = n) && decide (x.2.1 = v)).map fun x => (x.2.2 : Int)
def hasN (P : Pst) (n : Txt) : Bool := P.any fun x => decide (x.1 = n)
theorem idsP_snoc (P : Pst) (n v a b : Txt) (i : Nat) : idsP (P ++ [(n, v, i)]) a b = idsP P a b ++ if n = a ∧ v = b then [(i : Int)] else [] := by
  unfold idsP
  rw [List.filter_append, List.map_append]
  by_cases h : n = a ∧ v = b
  · rw [if_pos h]; simp [h.1, h.2]
  · rw [if_neg h]
    have : (decide (n = a) && decide (v = b)) = false := by
      rw [← Bool.decide_and]; exact decide_eq_false h
    simp [this]
theorem hasN_snoc (P : Pst) (n v a : Txt) (i : Nat) : hasN (P ++ [(n, v, i)]) a = (hasN P a || decide (n = a)) := by
  unfold hasN; simp
theorem idsP_hasN {P : Pst} {n v : Txt} (h : idsP P n v ≠ []) : hasN P n = true := by
  unfold idsP at h
  obtain ⟨y, hy⟩ := List.exists_mem_of_ne_nil _ h
  obtain ⟨x, hx, _⟩ := List.mem_map.1 hy
  obtain ⟨h1, h2⟩ := List.mem_filter.1 hx
  unfold hasN
  rw [List.any_eq_true]
  refine ⟨x, h1, ?_⟩
  simp only [Bool.and_eq_true] at h2
  exact h2.1
theorem hasN_ids {P : Pst} {n : Txt} (h : hasN P n = true) : ∃ v, idsP P n v ≠ [] := by
  unfold hasN at h
  rw [List.any_eq_true] at h
  obtain ⟨x, hx, h2⟩ := h
  refine ⟨x.2.1, ?_⟩
  unfold idsP
  intro e
  rw [List.map_eq_nil_iff, List.filter_eq_nil_iff] at e
  have := e x hx
  simp at h2
  simp [h2] at this
theorem mem_idsP {P : Pst} {n v : Txt} {x : Int} : x ∈ idsP P n v ↔ ∃ i : Nat, x = i ∧ (n, v, i) ∈ P := by
  unfold idsP
  simp only [List.mem_map, List.mem_filter, Bool.and_eq_true, decide_eq_true_eq]
  constructor
  · rintro ⟨⟨a, b, i⟩, ⟨h1, rfl, rfl⟩, rfl⟩; exact ⟨i, rfl, h1⟩
  · rintro ⟨i, rfl, h1⟩; exact ⟨_, ⟨h1, rfl, rfl⟩, rfl⟩
theorem idsP_len (P : Pst) (n v : Txt) : (idsP P n v).length ≤ P.length := by
  unfold idsP; rw [List.length_map]; exact List.length_filter_le _ _
/-- The postings of one series, of all. -/
def pst1 (i : Nat) (l : List Lab) : Pst := l.map fun x => (x.1, x.2, i)
def pstFrom (i : Nat) : Ix → Pst
  | [] => []
  | l :: X => pst1 i l ++ pstFrom (i + 1) X
def pstX (X : Ix) : Pst := pstFrom 0 X
theorem pstFrom_append (i : Nat) (X Y : Ix) : pstFrom i (X ++ Y) = pstFrom i X ++ pstFrom (i + X.length) Y := by
  induction X generalizing i with
  | nil => simp [pstFrom]
  | cons l X ih => simp only [List.cons_append, pstFrom, ih, List.append_assoc, List.length_cons]; rw [show i + 1 + X.length = i + (X.length + 1) by omega]
theorem pstX_snoc (X : Ix) (l : List Lab) : pstX (X ++ [l]) = pstX X ++ pst1 X.length l := by
  unfold pstX; rw [pstFrom_append]; simp [pstFrom]
theorem pst1_take (i : Nat) (l : List Lab) (k : Nat) (h : k < l.length) : pst1 i (l.take (k + 1)) = pst1 i (l.take k) ++ [(l[k].1, l[k].2, i)] := by
  unfold pst1; rw [List.take_succ_eq_append_getElem h, List.map_append]; rfl
theorem mem_pstFrom {X : Ix} {i : Nat} {n v : Txt} {j : Nat} : (n, v, j) ∈ pstFrom i X ↔ ∃ k : Nat, ∃ h : k < X.length, j = i + k ∧ (n, v) ∈ X[k] := by
  induction X generalizing i with
  | nil => simp [pstFrom]
  | cons l X ih =>
    simp only [pstFrom, List.mem_append, ih]
    constructor
    · rintro (h | ⟨k, hk, rfl, hm⟩)
      · simp only [pst1, List.mem_map, Prod.mk.injEq] at h
        obtain ⟨x, hx, rfl, rfl, rfl⟩ := h
        exact ⟨0, by simp, rfl, hx⟩
      · exact ⟨k + 1, by simpa using hk, by omega, by simpa using hm⟩
    · rintro ⟨k, hk, rfl, hm⟩
      cases k with
      | zero => left; simp only [pst1, List.mem_map, Prod.mk.injEq]; exact ⟨(n, v), hm, rfl, rfl, rfl⟩
      | succ k => right; exact ⟨k, by simpa using hk, by omega, by simpa using hm⟩
theorem mem_pstX {X : Ix} {n v : Txt} {j : Nat} : (n, v, j) ∈ pstX X ↔ ∃ h : j < X.length, (n, v) ∈ X[j] := by
  unfold pstX
  rw [mem_pstFrom]
  constructor
  · rintro ⟨k, h, e, hm⟩
    have : j = k := by omega
    subst this
    exact ⟨h, hm⟩
  · rintro ⟨h, hm⟩; exact ⟨j, h, by omega, hm⟩
theorem pstX_len {X : Ix} (h8 : ∀ l ∈ X, l.length ≤ 8) : (pstX X).length ≤ 8 * X.length := by
  have h : ∀ i, (pstFrom i X).length ≤ 8 * X.length := by
    induction X with
    | nil => intro i; simp [pstFrom]
    | cons l X ih =>
      intro i
      have h1 := ih (fun m hm => h8 m (by simp [hm])) (i + 1)
      have h2 := h8 l (by simp)
      simp only [pstFrom, List.length_append, pst1, List.length_map, List.length_cons]
      omega
  exact h 0
/-- A list's ids rise. -/
theorem ids_up {X : Ix} {n v : Txt} (hd : ∀ l ∈ X, (l.map Prod.fst).Nodup) : (idsP (pstX X) n v).Pairwise (· < ·) := by
  have hl : ∀ (l : List Lab) (i : Nat), (l.map Prod.fst).Nodup → (idsP (pst1 i l) n v = [] ∨ idsP (pst1 i l) n v = [(i : Int)]) := by
    intro l i
    induction l with
    | nil => intro _; left; rfl
    | cons x r ih =>
      intro h
      rw [List.map_cons, List.nodup_cons] at h
      have e : idsP (pst1 i (x :: r)) n v = (if x.1 = n ∧ x.2 = v then [(i : Int)] else []) ++ idsP (pst1 i r) n v := by
        unfold idsP pst1
        by_cases h : x.1 = n ∧ x.2 = v
        · simp [h.1, h.2]
        · have : (decide (x.1 = n) && decide (x.2 = v)) = false := by rw [← Bool.decide_and]; exact decide_eq_false h
          rw [if_neg h]; simp [this]
      rw [e]
      by_cases hx : x.1 = n ∧ x.2 = v
      · rw [if_pos hx]
        right
        have : idsP (pst1 i r) n v = [] := by
          rcases ih h.2 with h1 | h1
          · exact h1
          · have hm : (i : Int) ∈ idsP (pst1 i r) n v := by rw [h1]; simp
            rw [mem_idsP] at hm
            obtain ⟨j, hj, hm⟩ := hm
            simp only [pst1, List.mem_map, Prod.mk.injEq] at hm
            obtain ⟨y, hy, e1, _⟩ := hm
            exact absurd (List.mem_map.2 ⟨y, hy, e1.trans hx.1.symm⟩) h.1
        rw [this]; rfl
      · rw [if_neg hx]; simpa using ih h.2
  have hF : ∀ i, (idsP (pstFrom i X) n v).Pairwise (· < ·) ∧ ∀ x ∈ idsP (pstFrom i X) n v, (i : Int) ≤ x := by
    induction X with
    | nil => intro i; simp [pstFrom, idsP]
    | cons l X ih =>
      intro i
      have h1 := ih (fun m hm => hd m (by simp [hm])) (i + 1)
      have h2 := hl l i (hd l (by simp))
      have e : idsP (pstFrom i (l :: X)) n v = idsP (pst1 i l) n v ++ idsP (pstFrom (i + 1) X) n v := by
        show idsP (pst1 i l ++ pstFrom (i + 1) X) n v = _
        unfold idsP; rw [List.filter_append, List.map_append]
      rw [e]
      rcases h2 with h2 | h2 <;> rw [h2]
      · exact ⟨h1.1, fun x hx => by have := h1.2 x hx; omega⟩
      · refine ⟨?_, fun x hx => ?_⟩
        · rw [List.singleton_append, List.pairwise_cons]
          exact ⟨fun a ha => by have := h1.2 a ha; omega, h1.1⟩
        · simp only [List.singleton_append, List.mem_cons] at hx
          rcases hx with rfl | hx
          · exact Int.le_refl _
          · have := h1.2 x hx; omega
  exact (hF 0).1
/-- Names rise, so each stands once. -/
theorem okL_nodup {l : List Lab} (h : okL l = true) : (l.map Prod.fst).Nodup := by
  have aux : ∀ (l : List Lab) (a : Txt), okFrom a l = true → (∀ x ∈ l, Lt a x.1) ∧ (l.map Prod.fst).Nodup := by
    intro l
    induction l with
    | nil => intro a _; simp
    | cons x r ih =>
      intro a h
      simp only [okFrom, Bool.and_eq_true] at h
      have h1 := ih x.1 h.2.2.2.2
      refine ⟨fun y hy => ?_, ?_⟩
      · rcases List.mem_cons.1 hy with rfl | hy
        · exact h.2.2.2.1
        · exact bl_trans h.2.2.2.1 (h1.1 y hy)
      · rw [List.map_cons, List.nodup_cons]
        refine ⟨fun hm => ?_, h1.2⟩
        obtain ⟨y, hy, e⟩ := List.mem_map.1 hm
        exact lt_ne (h1.1 y hy) e.symm
  exact (aux l [] (okL_from h)).2
theorem Good.up {X : Ix} (h : Good X) (n v : Txt) : (idsP (pstX X) n v).Pairwise (· < ·) := ids_up fun l hl => okL_nodup (h.ok l hl)
theorem Good.plen {X : Ix} (h : Good X) : (pstX X).length ≤ 1600 := by
  have h1 := pstX_len (fun l hl => okL_len (h.ok l hl))
  have h2 := h.few
  omega
/-- What a name has. -/
theorem getL_mem {l : List Lab} (h : (l.map Prod.fst).Nodup) {n v : Txt} (hm : (n, v) ∈ l) : getL l n = v := by
  induction l with
  | nil => simp at hm
  | cons x r ih =>
    rw [List.map_cons, List.nodup_cons] at h
    unfold getL
    rcases List.mem_cons.1 hm with e | hm
    · subst e; simp
    · have : x.1 ≠ n := fun e => h.1 (List.mem_map.2 ⟨(n, v), hm, e.symm⟩)
      rw [if_neg this]
      exact ih h.2 hm
theorem getL_none {l : List Lab} {n : Txt} (h : ∀ v, (n, v) ∉ l) : getL l n = [] := by
  induction l with
  | nil => rfl
  | cons x r ih =>
    unfold getL
    have : x.1 ≠ n := fun e => h x.2 (by rw [← e]; simp)
    rw [if_neg this]
    exact ih fun v hv => h v (by simp [hv])
/-- Which names and values there are. -/
theorem names_of {X : Ix} {R : List Txt} (hU : UpT R) (h : ∀ n, n ∈ R ↔ hasN (pstX X) n = true) : IsNames X R := by
  refine ⟨hU, fun n => ?_⟩
  rw [h]
  unfold hasN
  rw [List.any_eq_true]
  constructor
  · rintro ⟨⟨a, v, j⟩, hx, e⟩
    simp at e
    subst e
    obtain ⟨hj, hm⟩ := mem_pstX.1 hx
    exact ⟨X[j], List.getElem_mem hj, _, hm, rfl⟩
  · rintro ⟨l, hl, x, hx, rfl⟩
    obtain ⟨j, hj, rfl⟩ := List.mem_iff_getElem.1 hl
    exact ⟨(x.1, x.2, j), mem_pstX.2 ⟨hj, hx⟩, by simp⟩
theorem values_of {X : Ix} (hG : Good X) {name : Txt} {R : List Txt} (hU : UpT R) (h : ∀ v, v ∈ R ↔ idsP (pstX X) name v ≠ []) : IsValues X name R := by
  refine ⟨hU, fun v => ?_⟩
  rw [h]
  constructor
  · intro hne
    obtain ⟨x, hx⟩ := List.exists_mem_of_ne_nil _ hne
    obtain ⟨j, rfl, hm⟩ := mem_idsP.1 hx
    obtain ⟨hj, hm⟩ := mem_pstX.1 hm
    have ho := hG.ok _ (List.getElem_mem hj)
    exact ⟨(okL_mem ho _ hm).2.2, _, List.getElem_mem hj, getL_mem (okL_nodup ho) hm⟩
  · rintro ⟨hv, l, hl, e⟩
    obtain ⟨j, hj, rfl⟩ := List.mem_iff_getElem.1 hl
    by_cases hm : ∃ u, (name, u) ∈ X[j]
    · obtain ⟨u, hm⟩ := hm
      have := getL_mem (okL_nodup (hG.ok _ hl)) hm
      rw [e] at this
      subst this
      exact List.ne_nil_of_mem (mem_idsP.2 ⟨j, rfl, mem_pstX.2 ⟨hj, hm⟩⟩)
    · rw [getL_none (fun v hv => hm ⟨v, hv⟩)] at e
      exact absurd e.symm hv
theorem namesX_eq {X : Ix} (hG : Good X) {R : List Txt} (hU : UpT R) (h : ∀ n, n ∈ R ↔ hasN (pstX X) n = true) : R = namesX X :=
  (names_of hU h).one (namesX_is X (fun l hl => okL_len (hG.ok l hl))).1
theorem valuesX_eq {X : Ix} (hG : Good X) {name : Txt} {R : List Txt} (hU : UpT R) (h : ∀ v, v ∈ R ↔ idsP (pstX X) name v ≠ []) : R = valuesX X name :=
  (values_of hG hU h).one (valuesX_is X name).1
/-- How many names, and values of one name, there are. -/
theorem without_len (X : Ix) (n : Txt) : (idsP (pstX X) n []).length ≤ (pstX X).length := idsP_len _ _ _
end Go.Proofs.YtdbifbgjbfnfmaaDoor
/-
  A map whose keys are texts and whose elements are whatever values. Plain lemmas over the library's laws (an element reads as itself); they name no program.
-/
namespace Go.Proofs.YtdbifbgjbfnfmaaDoor
open Go.RowKit Go.Deep Go.ChangeMaps
open Go.Maps (Keyed)
set_option linter.unusedVariables false
set_option linter.unusedSimpArgs false

/-- An element reads as itself. -/
def anyE (v : Value) : Option (DataW Value × List MemPlace) := some (.held v, [])
def unheld : DataW Value → Value
  | .held v => v
  | _ => undef
/-- The element at a key. -/
def getS (D : DataW Value) (s : List UInt8) : Option Value := if Maps.has D (.string s) = true then some (unheld (D.atKey (.string s) .nil)) else none
/-- Block b is a map of at most n entries that holds D. -/
def MapS (P : Program) (k : TypeId) (w : World) (b n : Nat) (D : DataW Value) : Prop := w.ownsMap P k anyE b n D
section
variable {P : Program} {k : TypeId} {w : World} {b n : Nat} {D : DataW Value}
theorem keyS (hk : P.underlying k = some .string) (s : List UInt8) (hs : s.length ≤ maxLen) : keyOf P k (.string (str s)) = some (.string s) := by
  have h := WideMaps.keyOf_string_mk (P := P) hk (s := str s) (by rw [str_size]; exact hs)
  rw [str_data] at h
  exact h
theorem keyS_inv (hk : P.underlying k = some .string) {key : Value} {kl : Lit} (h : keyOf P k key = some kl) : ∃ s : List UInt8, key = .string (str s) ∧ kl = .string s ∧ s.length ≤ maxLen := by
  cases key <;> simp [keyOf, hk, mapKey] at h
  rename_i x
  obtain ⟨s, rfl⟩ := str_of x
  rw [str_size, str_data] at h
  obtain ⟨h1, rfl⟩ := h
  exact ⟨s, rfl, rfl, h1⟩
theorem lit_key (s : List UInt8) : WideAt.IsKeyLit (.string s) := by
  first | exact ⟨_, rfl⟩ | trivial | (unfold WideAt.IsKeyLit; simp) | decide
theorem getS_empty (s : List UInt8) : getS (.map []) s = none := by
  unfold getS; rw [if_neg (by simp [Maps.has])]
theorem getS_put (hD : Maps.IsMap D) (s : List UInt8) (v : Value) : getS (D.put (.string s) (.held v)) s = some v := by
  unfold getS
  rw [if_pos (Maps.has_put_same hD (lit_key s) _), Maps.atKey_put_same hD (lit_key s)]
  rfl
theorem getS_put_other (s t : List UInt8) (h : t ≠ s) (d : DataW Value) : getS (D.put (.string s) d) t = getS D t := by
  have hne : (Lit.string t) ≠ Lit.string s := fun e => h (by injection e)
  unfold getS
  rw [Maps.has_put_other hne, Maps.atKey_put_other hne]
theorem mapS_made (P : Program) (k : TypeId) (w : World) : MapS P k (w.alloc (.map #[] 0)) w.heap.size 0 (.map []) := World.ownsMap_made w P k anyE
theorem MapS.isMap (h : MapS P k w b n D) : Maps.IsMap D := World.ownsMap.isMap h
theorem MapS.lt (h : MapS P k w b n D) : b < w.heap.size := World.ownsMap.lt h
theorem MapS.mono (h : MapS P k w b n D) {m : Nat} (hm : n ≤ m) : MapS P k w b m D := World.ownsMap.mono h hm
theorem MapS.keeps {F : List Nat} {w' : World} (h : MapS P k w b n D) (hk : Keeps F w w') (hb : b ∉ F) : MapS P k w' b n D := by
  obtain ⟨es, clock, hbl, r⟩ := h
  exact ⟨es, clock, hk.block hbl hb, r⟩
theorem MapS.below {w' : World} (h : MapS P k w b n D) (hb : Below w.heap.size w w') : MapS P k w' b n D := h.keeps (F := []) (Keeps.below hb) (by simp)
/-- 'm[k]', 'v, ok := m[k]'. -/
theorem MapS.look {t e : TypeId} {z : Value} (c : Bool) (h : MapS P k w b n D) (hk : P.underlying k = some .string) (ht : P.underlying t = some (.map k e)) (hz : (zeroValue e).run P w = .ok z w) (s : List UInt8) (hs : s.length ≤ maxLen) :
    (Instr.lookup t (.map (some b)) (.string (str s)) c).run P w = .ok (if c then .tuple #[(getS D s).getD z, .bool (getS D s).isSome] else (getS D s).getD z) w := by
  obtain ⟨es, clock, hb, F, _, rfl⟩ := h
  rcases Maps.fit_look c (Maps.string_keyed hk) ht hz hb F (keyS hk s hs) with ⟨hrun, _, hat⟩ | ⟨e0, y, _, _, hrun, hRv, hat, _⟩
  · have hh : getS (DataW.map ((es.toList.map (WideElems.rg P k anyE)).foldr DataW.insert [])) s = none := by
      unfold getS; rw [if_neg (by rw [Maps.has_false_of_atKey hat]; simp)]
    rw [hrun, hh]
    cases c <;> rfl
  · have hy : y = (.held e0.val, []) := (Option.some.inj hRv).symm
    subst hy
    have hh : getS (DataW.map ((es.toList.map (WideElems.rg P k anyE)).foldr DataW.insert [])) s = some e0.val := by
      unfold getS; rw [if_pos (Maps.has_true_of_atKey hat), hat]; rfl
    rw [hrun, hh]
    cases c <;> rfl
end
section
variable {P : Program} (w : World) {ops : Array Oper} {rest : List Oper} {o : Oper} {a : Act} {Q : Exit → Act → World → Prop}
/-- .. at the operation. -/
theorem wpList_look (hg : o.guard = none) (m x : Operand) (t : TypeId) (c : Bool) (hop : o.op = Op.lookup t m x c)
    (k e : TypeId) (hk : P.underlying k = some .string) (ht : P.underlying t = some (.map k e)) (z : Value) (hz : (zeroValue e).run P w = .ok z w) (b n : Nat) (D : DataW Value)
    (hm : a.eval m = .map (some b)) (hown : MapS P k w b n D) (s : List UInt8) (hx : a.eval x = .string (str s)) (hs : s.length ≤ maxLen)
    (hK : wpList P ops Q rest (a.put o.dst (if c then .tuple #[(getS D s).getD z, .bool (getS D s).isSome] else (getS D s).getD z)) w) :
    wpList P ops Q (o :: rest) a w := by
  refine wpList_plain hg fun K' hK' => ?_
  have hrun := hown.look c hk ht hz s hs
  unfold Oper.wp
  simp only [execOp, hop, hm, hx, hrun, Result.andThen_ok, Sem.run_bind, Sem.run_pure]
  exact hK' _ _ hK
/-- 'm[k] = v' at the operation. -/
theorem wpList_store (hg : o.guard = none) (m x v : Operand) (t : TypeId) (hop : o.op = Op.mapUpdate t m x v)
    (k e : TypeId) (hk : P.underlying k = some .string) (ht : P.underlying t = some (.map k e)) (b n : Nat) (D : DataW Value)
    (hm : a.eval m = .map (some b)) (hown : MapS P k w b n D) (hn : n < maxLen) (s : List UInt8) (val : Value) (hx : a.eval x = .string (str s)) (hv : a.eval v = val) (hs : s.length ≤ maxLen)
    (hK : ∀ w', MapS P k w' b (n + 1) (D.put (.string s) (.held val)) → w.grownBy w' (some b) → wpList P ops Q rest (a.put o.dst undef) w') :
    wpList P ops Q (o :: rest) a w :=
  wpList_mapUpdate_own w hg m x v t hop k e (Maps.string_keyed hk) ht anyE b n D hm hown hn (.string (str s)) val (.string s) hx hv (keyS hk s hs) (.held val) [] rfl hK
/-- 'len(m)' at the operation: see the library's wpList_len_own. The step of a range. -/
theorem wpList_next_s (hg : o.guard = none) (it : Operand) (hop : o.op = Op.next it false) (k : TypeId) (hk : P.underlying k = some .string) (b r n : Nat) (D : DataW Value) (left : Lit → Bool) (cnt : Nat)
    (hit : a.eval it = .pointer (some ⟨r, 0, none⟩)) (h : w.ranges P k anyE b r n D left cnt)
    (hDone : cnt = 0 → (∀ kl, left kl = false) → wpList P ops Q rest (a.put o.dst (.tuple #[.bool false])) w)
    (hMore : ∀ (s : List UInt8) (c : Value) (w' : World) (cnt' : Nat), s.length ≤ maxLen → left (.string s) = true → getS D s = some c → w'.ranges P k anyE b r n D (fun z => left z && !z.sameKey (.string s)) cnt' → cnt' < cnt →
      w.grownBy w' (some r) → w'.heap.size = w.heap.size → (Instr.entry (.pointer (some ⟨r, 0, none⟩))).run P w' = .ok (.tuple #[.string (str s), c]) w' → wpList P ops Q rest (a.put o.dst (.tuple #[.bool true, .string (str s), c])) w') :
    wpList P ops Q (o :: rest) a w :=
  wpList_next_ranges w hg it hop k (Maps.string_keyed hk) anyE (fun s : List UInt8 => .string (str s)) (fun c : Value => c) (fun key kl hkey => by obtain ⟨s, h1, _⟩ := keyS_inv hk hkey; exact ⟨s, h1⟩) (fun v y hv => ⟨v, rfl⟩)
    b r n D left cnt hit h hDone (fun s c kl y w' cnt' hkey hlk hv hat hrg hlt hgr hsz hen => by
      obtain ⟨s', e, rfl, hsl⟩ := keyS_inv hk hkey
      have e' : str s = str s' := by injection e
      obtain rfl := str_inj e'
      have hy : y = (.held c, []) := (Option.some.inj hv).symm
      subst hy
      exact hMore s c w' cnt' hsl hlk (by unfold getS; rw [if_pos (Maps.has_true_of_atKey hat), hat]; rfl) hrg hlt hgr hsz hen)
/-- The same, in a region that draws its order. -/
theorem step_look {K : Act → World → Prop} {E : Prop} (hg : o.guard = none) (m x : Operand) (t : TypeId) (c : Bool) (hop : o.op = Op.lookup t m x c)
    (k e : TypeId) (hk : P.underlying k = some .string) (ht : P.underlying t = some (.map k e)) (z : Value) (hz : (zeroValue e).run P w = .ok z w) (b n : Nat) (D : DataW Value)
    (hm : a.eval m = .map (some b)) (hown : MapS P k w b n D) (s : List UInt8) (hx : a.eval x = .string (str s)) (hs : s.length ≤ maxLen)
    (hK : K (a.put o.dst (if c then .tuple #[(getS D s).getD z, .bool (getS D s).isSome] else (getS D s).getD z)) w) :
    if Region.wanted o (yielded ops a.tmps) = true then Oper.wp P o a w K Q else E := by
  rw [if_pos (show Region.wanted o (yielded ops a.tmps) = true by simp [Region.wanted, hg])]
  have hrun := hown.look c hk ht hz s hs
  unfold Oper.wp
  simp only [execOp, hop, hm, hx, hrun, Result.andThen_ok, Sem.run_bind, Sem.run_pure]
  exact hK
theorem step_store {K : Act → World → Prop} {E : Prop} (hg : o.guard = none) (m x v : Operand) (t : TypeId) (hop : o.op = Op.mapUpdate t m x v)
    (k e : TypeId) (hk : P.underlying k = some .string) (ht : P.underlying t = some (.map k e)) (b n : Nat) (D : DataW Value)
    (hm : a.eval m = .map (some b)) (hown : MapS P k w b n D) (hn : n < maxLen) (s : List UInt8) (val : Value) (hx : a.eval x = .string (str s)) (hv : a.eval v = val) (hs : s.length ≤ maxLen)
    (hK : ∀ w', MapS P k w' b (n + 1) (D.put (.string s) (.held val)) → w.grownBy w' (some b) → K (a.put o.dst undef) w') :
    if Region.wanted o (yielded ops a.tmps) = true then Oper.wp P o a w K Q else E := by
  rw [if_pos (show Region.wanted o (yielded ops a.tmps) = true by simp [Region.wanted, hg])]
  obtain ⟨w', hrun, r1, r2⟩ := World.ownsMap.update hown (Maps.string_keyed hk) ht hn (keyS hk s hs) (d := .held val) (ps := []) rfl
  unfold Oper.wp
  simp only [execOp, hop, hm, hx, hv, hrun, Result.andThen_ok, Sem.run_bind, Sem.run_pure]
  exact hK w' r1 r2
/-- A look-up at the operation itself. -/
theorem wp_look {K : Act → World → Prop} (m x : Operand) (t : TypeId) (c : Bool) (hop : o.op = Op.lookup t m x c)
    (k e : TypeId) (hk : P.underlying k = some .string) (ht : P.underlying t = some (.map k e)) (z : Value) (hz : (zeroValue e).run P w = .ok z w) (b n : Nat) (D : DataW Value)
    (hm : a.eval m = .map (some b)) (hown : MapS P k w b n D) (s : List UInt8) (hx : a.eval x = .string (str s)) (hs : s.length ≤ maxLen)
    (hK : K (a.put o.dst (if c then .tuple #[(getS D s).getD z, .bool (getS D s).isSome] else (getS D s).getD z)) w) : Oper.wp P o a w K Q := by
  have hrun := hown.look c hk ht hz s hs
  unfold Oper.wp
  simp only [execOp, hop, hm, hx, hrun, Result.andThen_ok, Sem.run_bind, Sem.run_pure]
  exact hK
/-- 'range m' at the operation itself. -/
theorem wp_range {K : Act → World → Prop} (m : Operand) (t : TypeId) (hop : o.op = Op.range t m)
    (k e : TypeId) (hk : P.underlying k = some .string) (ht : P.underlying t = some (.map k e)) (b n : Nat) (D : DataW Value)
    (hm : a.eval m = .map (some b)) (hown : MapS P k w b n D)
    (hK : ∀ w', w'.ranges P k anyE b w.heap.size n D (Maps.has D) (Maps.size D) → w.grownBy w' none → w'.heap.size = w.heap.size + 1 → K (a.put o.dst (.pointer (some ⟨w.heap.size, 0, none⟩))) w') : Oper.wp P o a w K Q := by
  obtain ⟨w', hrun, r1, r2, r3⟩ := World.ownsMap.range hown (Maps.string_keyed hk) ht
  unfold Oper.wp
  simp only [execOp, hop, hm, hrun, Result.andThen_ok, Sem.run_bind, Sem.run_pure]
  exact hK w' r1 r2 r3
/-- .. at the operation itself. -/
theorem wp_store {K : Act → World → Prop} (m x v : Operand) (t : TypeId) (hop : o.op = Op.mapUpdate t m x v)
    (k e : TypeId) (hk : P.underlying k = some .string) (ht : P.underlying t = some (.map k e)) (b n : Nat) (D : DataW Value)
    (hm : a.eval m = .map (some b)) (hown : MapS P k w b n D) (hn : n < maxLen) (s : List UInt8) (val : Value) (hx : a.eval x = .string (str s)) (hv : a.eval v = val) (hs : s.length ≤ maxLen)
    (hK : ∀ w', MapS P k w' b (n + 1) (D.put (.string s) (.held val)) → w.grownBy w' (some b) → K (a.put o.dst undef) w') : Oper.wp P o a w K Q := by
  obtain ⟨w', hrun, r1, r2⟩ := World.ownsMap.update hown (Maps.string_keyed hk) ht hn (keyS hk s hs) (d := .held val) (ps := []) rfl
  unfold Oper.wp
  simp only [execOp, hop, hm, hx, hv, hrun, Result.andThen_ok, Sem.run_bind, Sem.run_pure]
  exact hK w' r1 r2
theorem step_range {K : Act → World → Prop} {E : Prop} (hg : o.guard = none) (m : Operand) (t : TypeId) (hop : o.op = Op.range t m)
    (k e : TypeId) (hk : P.underlying k = some .string) (ht : P.underlying t = some (.map k e)) (b n : Nat) (D : DataW Value)
    (hm : a.eval m = .map (some b)) (hown : MapS P k w b n D)
    (hK : ∀ w', w'.ranges P k anyE b w.heap.size n D (Maps.has D) (Maps.size D) → w.grownBy w' none → w'.heap.size = w.heap.size + 1 → K (a.put o.dst (.pointer (some ⟨w.heap.size, 0, none⟩))) w') :
    if Region.wanted o (yielded ops a.tmps) = true then Oper.wp P o a w K Q else E := by
  rw [if_pos (show Region.wanted o (yielded ops a.tmps) = true by simp [Region.wanted, hg])]
  obtain ⟨w', hrun, r1, r2, r3⟩ := World.ownsMap.range hown (Maps.string_keyed hk) ht
  unfold Oper.wp
  simp only [execOp, hop, hm, hrun, Result.andThen_ok, Sem.run_bind, Sem.run_pure]
  exact hK w' r1 r2 r3
theorem has_getS {D : DataW Value} (s : List UInt8) : Maps.has D (.string s) = (getS D s).isSome := by
  unfold getS; split <;> simp_all
theorem sameS (s t : List UInt8) : (Lit.string s).sameKey (.string t) = decide (s = t) := by
  by_cases h : s = t
  · subst h; rw [WideAt.sameKey_self (lit_key s)]; simp
  · rw [Maps.sameKey_ne (fun e => h (by injection e))]; simp [h]
end
end Go.Proofs.YtdbifbgjbfnfmaaDoor
