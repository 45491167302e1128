/-
  Layer 4 (label): two runs in a row of labels become one: where one of them is a single label.
-/
import Derived.Test.YtopnnhjfcfhihaaLabelRot
import Derived.Test.YtopnnhjfcfhihaaLabelMerge
namespace Go.Proofs.Ytopnnhjfcfhihaa
open Go.RowKit Go.Deep
attribute [local go_sem] str_size str_append str_toList str_get str_extract
set_option linter.unusedVariables false
set_option linter.unusedSimpArgs false
theorem RowL.gat {g : Nat} {l : List Lab} {w : World} (h : RowL g l w) {i : Nat} (hi : i < l.length) (x : Lab) (hx : atN l i = x) :
    w.cell? ⟨g, i * 2, none⟩ = some (.string (str x.1)) ∧ w.cell? ⟨g, i * 2 + 1, none⟩ = some (.string (str x.2)) := by
  rw [atN_get hi] at hx
  subst hx
  obtain ⟨cur, h1, h2, h3⟩ := h
  have := h3 i hi
  refine ⟨?_, ?_⟩
  · rw [blk_cell h1, Nat.mul_comm]; exact this.1
  · rw [blk_cell h1, Nat.mul_comm]; exact this.2
theorem half_eq (i j h : Nat) (hh : h = (i + j) / 2) : ((i : Int) + (j : Int)) / 2 = (h : Int) := by omega
theorem put_two {g : Nat} {D E : List Lab} {x y : Lab} {w : World} (h : RowL g (D ++ y :: x :: E) w) (k : Nat) (hk : k = D.length) :
    RowL g (D ++ x :: y :: E) ((((w.setCell ⟨g, (k + 1) * 2, none⟩ (.string (str y.1))).setCell ⟨g, (k + 1) * 2 + 1, none⟩ (.string (str y.2))).setCell ⟨g, k * 2, none⟩ (.string (str x.1))).setCell ⟨g, k * 2 + 1, none⟩ (.string (str x.2))) := by
  have hp1 := RowL.put (g := g) (D := D ++ [y]) (x := x) (E := E) (w := w) (by simpa using h) y (k + 1) (by simp; omega)
  exact RowL.put (g := g) (D := D) (x := y) (E := y :: E) (by simpa using hp1) x k hk
theorem put_two' {g : Nat} {D E : List Lab} {x y : Lab} {w : World} (h : RowL g (D ++ y :: x :: E) w) (k : Nat) (hk : k = D.length) :
    RowL g (D ++ x :: y :: E) ((((w.setCell ⟨g, k * 2, none⟩ (.string (str x.1))).setCell ⟨g, k * 2 + 1, none⟩ (.string (str x.2))).setCell ⟨g, (k + 1) * 2, none⟩ (.string (str y.1))).setCell ⟨g, (k + 1) * 2 + 1, none⟩ (.string (str y.2))) := by
  have hp1 := RowL.put (g := g) (D := D) (x := y) (E := x :: E) (w := w) h x k hk
  have hp2 := RowL.put (g := g) (D := D ++ [x]) (x := x) (E := E) (by simpa using hp1) y (k + 1) (by simp; omega)
  simpa using hp2
theorem below_four {B g : Nat} {w w' : World} (h : Below B w w') (hg : B ≤ g) (a b c d : Nat) (v1 v2 v3 v4 : Value) : Below B w ((((w'.setCell ⟨g, a, none⟩ v1).setCell ⟨g, b, none⟩ v2).setCell ⟨g, c, none⟩ v3).setCell ⟨g, d, none⟩ v4) :=
  (((h.setCell (p := ⟨g, a, none⟩) hg _).setCell (p := ⟨g, b, none⟩) hg _).setCell (p := ⟨g, c, none⟩) hg _).setCell (p := ⟨g, d, none⟩) hg _
set_option maxHeartbeats 4000000 in
set_option maxRecDepth 100000 in
theorem symm_one (g B N cap a m b : Nat) (P C S : List Lab) (x : Lab) (w : World) (hg : B ≤ g) (hB : B ≤ w.heap.size) (ha : a = P.length) (hm : m = a + 1) (hb : b = m + C.length) (hC1 : 1 ≤ C.length) (hC : SortedN C) (hN : b ≤ N) (hn : N ≤ 4096) (hr : RowL g (P ++ x :: (C ++ S)) w) :
    Calls Try.prog 34 #[.slice (some ⟨g, 0, none⟩) N cap, .int .i64 (a : Int), .int .i64 (m : Int), .int .i64 (b : Int), .func (.func 20) #[] #[]] w fun e w' => e = .returned (.tuple #[]) ∧ (∃ D, RowL g (P ++ D ++ S) w' ∧ SortedN D ∧ Stb D ([x] ++ C) ∧ D.length = C.length + 1) ∧ Below B w w' := by
  have HA := Lib.hid (And.intro ha (And.intro hm hb))
  have em1 : (m : Int) - (a : Int) = 1 := by omega
  have hmb : m ≤ b := by omega
  have ham : a < m := by omega
  have hma : m ≤ a + 1 := by omega
  have HR0 := Lib.hid hr
  clear hr ha hm hb
  go_enter Try.func34, Try.ntmps34
  go_wp2_with fail
  go_loopw [10, 11] (fun c d wr => ∃ i j : Nat, c = .int .i64 i ∧ d = .int .i64 j ∧ m ≤ i ∧ i ≤ j ∧ j ≤ b ∧ RowL g (P ++ x :: (C ++ S)) wr ∧ Hid ((m < i → ltN (atN C (i - 1 - m)) x = true) ∧ (j < b → ltN (atN C (j - m)) x = false)) ∧ Below B w wr) (fun c d _ => (intOf d).toNat - (intOf c).toNat)
  case atStart => exact ⟨m, b, rfl, rfl, by omega, by omega, by omega, HR0.out, ⟨fun h => by omega, fun h => by omega⟩, Below.refl _ _⟩
  case round =>
    obtain ⟨i, j, rfl, rfl, hmi, hij, hjb, hrow, HI, hbw⟩ := hrel
    by_cases hlt : i < j
    · obtain ⟨h, hh⟩ : ∃ h, h = (i + j) / 2 := ⟨_, rfl⟩
      have eh := half_eq i j h hh
      have hih : i ≤ h := by omega
      have hhj : h < j := by omega
      obtain ⟨y, hy⟩ : ∃ y, atN C (h - m) = y := ⟨_, rfl⟩
      have hyl : atN (P ++ x :: (C ++ S)) h = y := by
        have h1 := HA.out
        rw [atN_right (by omega), show x :: (C ++ S) = [x] ++ (C ++ S) from rfl, atN_right (by simp; omega), atN_left (by simp; omega), ← hy]
        congr 1
        simp; omega
      have hxl : atN (P ++ x :: (C ++ S)) a = x := by
        have h1 := HA.out
        rw [atN_right (by omega), show x :: (C ++ S) = [x] ++ (C ++ S) from rfl, atN_left (by simp; omega), h1.1, Nat.sub_self]; rfl
      have hll : (P ++ x :: (C ++ S)).length = a + 1 + C.length + S.length := by have h1 := HA.out; simp; omega
      have hS : ∀ W, Below wr.heap.size wr W → W.cell? ⟨g, h * 2, none⟩ = some (.string (str y.1)) ∧ W.cell? ⟨g, h * 2 + 1, none⟩ = some (.string (str y.2)) ∧ W.cell? ⟨g, a * 2, none⟩ = some (.string (str x.1)) ∧ W.cell? ⟨g, a * 2 + 1, none⟩ = some (.string (str x.2)) ∧ Below wr.heap.size wr W := by
        intro W hW
        have hrW := hrow.below hW
        have h1 := HA.out
        obtain ⟨y0, y1⟩ := hrW.gat (i := h) (by rw [hll]; omega) y hyl
        obtain ⟨x0, x1⟩ := hrW.gat (i := a) (by rw [hll]; omega) x hxl
        exact ⟨y0, y1, x0, x1, hW⟩
      have HS := Lib.hid hS
      have cc := fun W => cmp_c y x W
      obtain ⟨c, hc⟩ : ∃ c, cmpN y x = c := ⟨_, rfl⟩
      rw [hc] at cc
      have HC := Lib.hid hc
      have HY := Lib.hid hy
      have HROW := Lib.hid hrow
      have ih : (0 : Int) ≤ (h : Int) ∧ (h : Int) < (N : Int) := by omega
      have ia : (0 : Int) ≤ (a : Int) ∧ (a : Int) < (N : Int) := by omega
      clear hS hc hrow hyl hxl hll hh hy
      go_wp2_with fail
      refine wp_region_held_drew (S := fun W => W.cell? ⟨g, h * 2, none⟩ = some (.string (str y.1)) ∧ W.cell? ⟨g, h * 2 + 1, none⟩ = some (.string (str y.2)) ∧ W.cell? ⟨g, a * 2, none⟩ = some (.string (str x.1)) ∧ W.cell? ⟨g, a * 2 + 1, none⟩ = some (.string (str x.2)) ∧ Below wr.heap.size wr W) (by kernel_rfl) (HS.out _ ((Below.refl _ _).drew)) (fun hHeld => ?_)
      refine held_w (i := 0) (d := some 40) (v := ?_) rfl (by kernel_rfl) (by kernel_rfl) (by kernel_rfl) (fun _ _ _ h => h) (by rfl) ?_ hHeld ?_
      rotate_left
      · intro w' hSw; obtain ⟨q0, q1, q2, q3, q4⟩ := hSw; simp only [List.getElem?_toArray, List.getElem?_cons_zero, List.getElem?_cons_succ]; go_simp; try with_reducible rfl
      try simp only [Act.put, List.setIfInBounds_toArray, List.set_cons_zero, List.set_cons_succ]
      refine held_w (i := 1) (d := some 41) (v := ?_) rfl (by kernel_rfl) (by kernel_rfl) (by kernel_rfl) (fun _ _ _ h => h) (by rfl) ?_ hHeld ?_
      rotate_left
      · intro w' hSw; obtain ⟨q0, q1, q2, q3, q4⟩ := hSw; simp only [List.getElem?_toArray, List.getElem?_cons_zero, List.getElem?_cons_succ]; go_simp; try with_reducible rfl
      try simp only [Act.put, List.setIfInBounds_toArray, List.set_cons_zero, List.set_cons_succ]
      refine held_w (i := 2) (d := some 42) (v := ?_) rfl (by kernel_rfl) (by kernel_rfl) (by kernel_rfl) (fun _ _ _ h => h) (by rfl) ?_ hHeld ?_
      rotate_left
      · intro w' hSw; obtain ⟨q0, q1, q2, q3, q4⟩ := hSw; simp only [List.getElem?_toArray, List.getElem?_cons_zero, List.getElem?_cons_succ]; go_simp; try with_reducible rfl
      try simp only [Act.put, List.setIfInBounds_toArray, List.set_cons_zero, List.set_cons_succ]
      refine held_w (i := 3) (d := some 43) (v := ?_) rfl (by kernel_rfl) (by kernel_rfl) (by kernel_rfl) (fun _ _ _ h => h) (by rfl) ?_ hHeld ?_
      rotate_left
      · intro w' hSw; obtain ⟨q0, q1, q2, q3, q4⟩ := hSw; simp only [List.getElem?_toArray, List.getElem?_cons_zero, List.getElem?_cons_succ]; go_simp; try with_reducible rfl
      try simp only [Act.put, List.setIfInBounds_toArray, List.set_cons_zero, List.set_cons_succ]
      refine held_w (i := 4) (d := some 44) (v := ?_) rfl (by kernel_rfl) (by kernel_rfl) (by kernel_rfl) (fun _ _ _ h => h) (by rfl) ?_ hHeld ?_
      rotate_left
      · intro w' hSw; obtain ⟨q0, q1, q2, q3, q4⟩ := hSw; simp only [List.getElem?_toArray, List.getElem?_cons_zero, List.getElem?_cons_succ]; go_simp; try with_reducible rfl
      try simp only [Act.put, List.setIfInBounds_toArray, List.set_cons_zero, List.set_cons_succ]
      refine held_w (i := 5) (d := some 45) (v := ?_) rfl (by kernel_rfl) (by kernel_rfl) (by kernel_rfl) (fun _ _ _ h => h) (by rfl) ?_ hHeld ?_
      rotate_left
      · intro w' hSw; obtain ⟨q0, q1, q2, q3, q4⟩ := hSw; simp only [List.getElem?_toArray, List.getElem?_cons_zero, List.getElem?_cons_succ]; go_simp; try with_reducible rfl
      try simp only [Act.put, List.setIfInBounds_toArray, List.set_cons_zero, List.set_cons_succ]
      refine held_w (i := 6) (d := some 46) (v := ?_) rfl (by kernel_rfl) (by kernel_rfl) (by kernel_rfl) (fun _ _ _ h => h) (by rfl) ?_ hHeld ?_
      rotate_left
      · intro w' hSw; obtain ⟨q0, q1, q2, q3, q4⟩ := hSw; simp only [List.getElem?_toArray, List.getElem?_cons_zero, List.getElem?_cons_succ]; go_simp; try with_reducible rfl
      try simp only [Act.put, List.setIfInBounds_toArray, List.set_cons_zero, List.set_cons_succ]
      refine held_w (i := 7) (d := some 47) (v := ?_) rfl (by kernel_rfl) (by kernel_rfl) (by kernel_rfl) (fun _ _ _ h => h) (by rfl) ?_ hHeld ?_
      rotate_left
      · intro w' hSw; obtain ⟨q0, q1, q2, q3, q4⟩ := hSw; simp only [List.getElem?_toArray, List.getElem?_cons_zero, List.getElem?_cons_succ]; go_simp; try with_reducible rfl
      try simp only [Act.put, List.setIfInBounds_toArray, List.set_cons_zero, List.set_cons_succ]
      refine held_w (i := 8) (d := some 48) (v := ?_) rfl (by kernel_rfl) (by kernel_rfl) (by kernel_rfl) (fun _ _ _ h => h) (by rfl) ?_ hHeld ?_
      rotate_left
      · intro w' hSw; obtain ⟨q0, q1, q2, q3, q4⟩ := hSw; simp only [List.getElem?_toArray, List.getElem?_cons_zero, List.getElem?_cons_succ]; go_simp; try with_reducible rfl
      try simp only [Act.put, List.setIfInBounds_toArray, List.set_cons_zero, List.set_cons_succ]
      refine held_c (i := 9) (by kernel_rfl) (by rfl) (fun K hK => ?_)
      simp only [List.getElem?_toArray, List.getElem?_cons_zero, List.getElem?_cons_succ]
      go_simp
      refine (cc _).mono ?_
      rintro e w3 ⟨rfl, hb3⟩
      have hb4 := hHeld.2.2.2.2.trans (hb3.mono hHeld.2.2.2.2.size)
      refine hK.out _ _ (HS.out _ hb4) (fun hHeld => ?_)
      clear hK hb3
      try simp only [Act.put, List.setIfInBounds_toArray, List.set_cons_zero, List.set_cons_succ]
      refine held_w (i := 10) (d := some 50) (v := ?_) rfl (by kernel_rfl) (by kernel_rfl) (by kernel_rfl) (fun _ _ _ h => h) (by rfl) ?_ hHeld ?_
      rotate_left
      · intro w' hSw; obtain ⟨q0, q1, q2, q3, q4⟩ := hSw; simp only [List.getElem?_toArray, List.getElem?_cons_zero, List.getElem?_cons_succ]; go_simp; try with_reducible rfl
      try simp only [Act.put, List.setIfInBounds_toArray, List.set_cons_zero, List.set_cons_succ]
      refine wpAnyH_done (by kernel_rfl) ?_ _
      skip
      have hbq := hHeld.2.2.2.2
      have hrW := Lib.hid (HROW.out.below hbq)
      have hbB : Below B w w3 := hbw.trans (hbq.mono (by have := hbw.size; omega))
      clear hHeld hb4 hbq
      cases hlt2 : ltN y x with
      | true =>
        have hcl : c < 0 := by rw [← HC.out]; exact cmpN_lt hlt2
        have HI2 : Hid ((m < h + 1 → ltN (atN C (h + 1 - 1 - m)) x = true) ∧ (j < b → ltN (atN C (j - m)) x = false)) := ⟨fun _ => by rw [Nat.add_sub_cancel, HY.out]; exact hlt2, HI.out.2⟩
        clear hlt2
        go_wp2_with fail
        go_roundw
        case rel => exact ⟨h + 1, j, by go_num, rfl, by omega, by omega, hjb, hrW.out, HI2.out, hbB⟩
        case measure => simp [intOf]; omega
      | false =>
        have hcl : ¬ c < 0 := by rw [← HC.out]; exact cmpN_ge hlt2
        have HI2 : Hid ((m < i → ltN (atN C (i - 1 - m)) x = true) ∧ (h < b → ltN (atN C (h - m)) x = false)) := ⟨HI.out.1, fun _ => by rw [HY.out]; exact hlt2⟩
        clear hlt2
        go_wp2_with fail
        go_roundw
        case rel => exact ⟨i, h, rfl, rfl, hmi, by omega, by omega, hrW.out, HI2.out, hbB⟩
        case measure => simp [intOf]; omega
    · obtain rfl : i = j := by omega
      obtain ⟨k0, hk0⟩ : ∃ k0, k0 = i - m := ⟨_, rfl⟩
      have hkC : k0 ≤ C.length := by have h1 := HA.out; omega
      have hmf := merge_first (x := x) hC hkC (fun h => by have := HI.out.1 (by omega); rw [show k0 - 1 = i - 1 - m by omega]; exact this) (fun h => by have h1 := HA.out; have := HI.out.2 (by omega); rw [hk0]; exact this)
      have HMF := Lib.hid hmf
      have hCs : C = C.take k0 ++ C.drop k0 := (List.take_append_drop k0 C).symm
      obtain ⟨C1, hC1e⟩ : ∃ C1, C.take k0 = C1 := ⟨_, rfl⟩
      obtain ⟨C2, hC2e⟩ : ∃ C2, C.drop k0 = C2 := ⟨_, rfl⟩
      have hC1l : C1.length = k0 := by rw [← hC1e, List.length_take]; omega
      have hCC : C.length = k0 + C2.length := by rw [← hC2e, List.length_drop]; omega
      rw [hC1e, hC2e] at hCs HMF
      rw [hCs] at hrow
      have HROW := Lib.hid (show RowL g (P ++ C1.take 0 ++ x :: (C1.drop 0 ++ C2 ++ S)) wr by simpa using hrow)
      have hs1 := hbw.size
      have hi1 : 1 ≤ i := by omega
      have ei : (i : Int) - 1 = ((i - 1 : Nat) : Int) := by omega
      obtain ⟨i1, hi1e⟩ : ∃ i1, i1 = i - 1 := ⟨_, rfl⟩
      rw [← hi1e] at ei
      have hai : a + k0 = i1 := by omega
      have hiN : i1 < N := by omega
      clear hmf hC1e hC2e hCs hrow HI hk0 hi1e em1
      go_wp2_with fail
      obtain ⟨wo, rfl⟩ : ∃ wo : World, wo = wr := ⟨_, rfl⟩
      go_loopw [13] (fun c wr => ∃ t : Nat, c = .int .i64 ((a + t : Nat) : Int) ∧ t ≤ k0 ∧ RowL g (P ++ C1.take t ++ x :: (C1.drop t ++ C2 ++ S)) wr ∧ Below B w wr) (fun c _ => i1 - (intOf c).toNat)
      case atStart => exact ⟨0, by simp, by omega, HROW.out, hbw⟩
      case round =>
        obtain ⟨t, rfl, ht, hrow, hbr⟩ := hrel
        obtain ⟨u, hu⟩ : ∃ u, u = a + t := ⟨_, rfl⟩
        rw [← hu]
        by_cases htk : t < k0
        · obtain ⟨z, hz⟩ : ∃ z, C1[t]'(by omega) = z := ⟨_, rfl⟩
          have e1 : C1.drop t = z :: C1.drop (t + 1) := by rw [List.drop_eq_getElem_cons (by omega), hz]
          have e2 : C1.take (t + 1) = C1.take t ++ [z] := by rw [List.take_succ_eq_append_getElem (by omega), hz]
          rw [e1] at hrow
          have hrow' : RowL g ((P ++ C1.take t) ++ x :: z :: (C1.drop (t + 1) ++ C2 ++ S)) wr := by simpa using hrow
          have hDl : u = (P ++ C1.take t).length := by have h1 := HA.out; simp; omega
          obtain ⟨y0, y1, fy0, fy1⟩ := hrow'.get u hDl
          obtain ⟨x0, x1, fx0, fx1⟩ := RowL.get (g := g) (D := (P ++ C1.take t) ++ [x]) (x := z) (E := C1.drop (t + 1) ++ C2 ++ S) (w := wr) (by simpa using hrow') (u + 1) (by simp at hDl ⊢; omega)
          have iu : (0 : Int) ≤ (u : Int) ∧ (u : Int) < (N : Int) := by omega
          have iv : (0 : Int) ≤ (u : Int) + 1 ∧ (u : Int) + 1 < (N : Int) := by omega
          have wu : IntKind.i64.wrap ((u : Int) + 1) = (u : Int) + 1 := IntWalk.i64_in _ (by omega)
          have hui : (u : Int) < (i1 : Int) := by omega
          have HP2 := Lib.hid (fun W (hW : RowL g ((P ++ C1.take t) ++ x :: z :: (C1.drop (t + 1) ++ C2 ++ S)) W) => put_two' hW u hDl)
          have HRR := Lib.hid hrow'
          have HE2 : Hid (P ++ C1.take t ++ z :: x :: (C1.drop (t + 1) ++ C2 ++ S) = P ++ C1.take (t + 1) ++ x :: (C1.drop (t + 1) ++ C2 ++ S)) := by show _ = _; rw [e2]; simp
          have HU := Lib.hid hu
          have hua : a ≤ u := by omega
          clear e1 e2 hz hrow hrow' hDl hu
          go_wp2_with fail
          refine wp_region_held_drew (S := fun _ => True) (by kernel_rfl) trivial (fun hHeld => ?_)
          refine held_w (i := 0) (d := some 61) (v := ?_) rfl (by kernel_rfl) (by kernel_rfl) (by kernel_rfl) (fun _ _ _ h => h) (by rfl) ?_ hHeld ?_
          rotate_left
          · intro w' hSw; obtain ⟨q0⟩ := hSw; simp only [List.getElem?_toArray, List.getElem?_cons_zero, List.getElem?_cons_succ]; go_simp; try with_reducible rfl
          try simp only [Act.put, List.setIfInBounds_toArray, List.set_cons_zero, List.set_cons_succ]
          refine held_w (i := 1) (d := some 62) (v := ?_) rfl (by kernel_rfl) (by kernel_rfl) (by kernel_rfl) (fun _ _ _ h => h) (by rfl) ?_ hHeld ?_
          rotate_left
          · intro w' hSw; obtain ⟨q0⟩ := hSw; simp only [List.getElem?_toArray, List.getElem?_cons_zero, List.getElem?_cons_succ]; go_simp; try with_reducible rfl
          try simp only [Act.put, List.setIfInBounds_toArray, List.set_cons_zero, List.set_cons_succ]
          refine held_w (i := 2) (d := some 63) (v := ?_) rfl (by kernel_rfl) (by kernel_rfl) (by kernel_rfl) (fun _ _ _ h => h) (by rfl) ?_ hHeld ?_
          rotate_left
          · intro w' hSw; obtain ⟨q0⟩ := hSw; simp only [List.getElem?_toArray, List.getElem?_cons_zero, List.getElem?_cons_succ]; go_simp; try with_reducible rfl
          try simp only [Act.put, List.setIfInBounds_toArray, List.set_cons_zero, List.set_cons_succ]
          refine held_w (i := 3) (d := some 64) (v := ?_) rfl (by kernel_rfl) (by kernel_rfl) (by kernel_rfl) (fun _ _ _ h => h) (by rfl) ?_ hHeld ?_
          rotate_left
          · intro w' hSw; obtain ⟨q0⟩ := hSw; simp only [List.getElem?_toArray, List.getElem?_cons_zero, List.getElem?_cons_succ]; go_simp; try with_reducible rfl
          try simp only [Act.put, List.setIfInBounds_toArray, List.set_cons_zero, List.set_cons_succ]
          refine held_w (i := 4) (d := some 65) (v := ?_) rfl (by kernel_rfl) (by kernel_rfl) (by kernel_rfl) (fun _ _ _ h => h) (by rfl) ?_ hHeld ?_
          rotate_left
          · intro w' hSw; obtain ⟨q0⟩ := hSw; simp only [List.getElem?_toArray, List.getElem?_cons_zero, List.getElem?_cons_succ]; go_simp; try with_reducible rfl
          try simp only [Act.put, List.setIfInBounds_toArray, List.set_cons_zero, List.set_cons_succ]
          refine held_w (i := 5) (d := some 66) (v := ?_) rfl (by kernel_rfl) (by kernel_rfl) (by kernel_rfl) (fun _ _ _ h => h) (by rfl) ?_ hHeld ?_
          rotate_left
          · intro w' hSw; obtain ⟨q0⟩ := hSw; simp only [List.getElem?_toArray, List.getElem?_cons_zero, List.getElem?_cons_succ]; go_simp; try with_reducible rfl
          try simp only [Act.put, List.setIfInBounds_toArray, List.set_cons_zero, List.set_cons_succ]
          refine held_w (i := 6) (d := some 67) (v := ?_) rfl (by kernel_rfl) (by kernel_rfl) (by kernel_rfl) (fun _ _ _ h => h) (by rfl) ?_ hHeld ?_
          rotate_left
          · intro w' hSw; obtain ⟨q0⟩ := hSw; simp only [List.getElem?_toArray, List.getElem?_cons_zero, List.getElem?_cons_succ]; go_simp; try with_reducible rfl
          try simp only [Act.put, List.setIfInBounds_toArray, List.set_cons_zero, List.set_cons_succ]
          refine held_w (i := 7) (d := some 68) (v := ?_) rfl (by kernel_rfl) (by kernel_rfl) (by kernel_rfl) (fun _ _ _ h => h) (by rfl) ?_ hHeld ?_
          rotate_left
          · intro w' hSw; obtain ⟨q0⟩ := hSw; simp only [List.getElem?_toArray, List.getElem?_cons_zero, List.getElem?_cons_succ]; go_simp; try with_reducible rfl
          try simp only [Act.put, List.setIfInBounds_toArray, List.set_cons_zero, List.set_cons_succ]
          refine held_w (i := 8) (d := some 69) (v := ?_) rfl (by kernel_rfl) (by kernel_rfl) (by kernel_rfl) (fun _ _ _ h => h) (by rfl) ?_ hHeld ?_
          rotate_left
          · intro w' hSw; obtain ⟨q0⟩ := hSw; simp only [List.getElem?_toArray, List.getElem?_cons_zero, List.getElem?_cons_succ]; go_simp; try with_reducible rfl
          try simp only [Act.put, List.setIfInBounds_toArray, List.set_cons_zero, List.set_cons_succ]
          refine held_w (i := 10) (d := some 71) (v := ?_) rfl (by kernel_rfl) (by kernel_rfl) (by kernel_rfl) (fun _ _ _ h => h) (by rfl) ?_ hHeld ?_
          rotate_left
          · intro w' hSw; obtain ⟨q0⟩ := hSw; simp only [List.getElem?_toArray, List.getElem?_cons_zero, List.getElem?_cons_succ]; go_simp; try with_reducible rfl
          try simp only [Act.put, List.setIfInBounds_toArray, List.set_cons_zero, List.set_cons_succ]
          refine held_w (i := 11) (d := some 72) (v := ?_) rfl (by kernel_rfl) (by kernel_rfl) (by kernel_rfl) (fun _ _ _ h => h) (by rfl) ?_ hHeld ?_
          rotate_left
          · intro w' hSw; obtain ⟨q0⟩ := hSw; simp only [List.getElem?_toArray, List.getElem?_cons_zero, List.getElem?_cons_succ]; go_simp; try with_reducible rfl
          try simp only [Act.put, List.setIfInBounds_toArray, List.set_cons_zero, List.set_cons_succ]
          refine held_w (i := 12) (d := some 73) (v := ?_) rfl (by kernel_rfl) (by kernel_rfl) (by kernel_rfl) (fun _ _ _ h => h) (by rfl) ?_ hHeld ?_
          rotate_left
          · intro w' hSw; obtain ⟨q0⟩ := hSw; simp only [List.getElem?_toArray, List.getElem?_cons_zero, List.getElem?_cons_succ]; go_simp; try with_reducible rfl
          try simp only [Act.put, List.setIfInBounds_toArray, List.set_cons_zero, List.set_cons_succ]
          refine held_many (rs := [9, 13]) (by kernel_rfl) (by simp) ⟨?_, ?_, trivial⟩
          · refine ⟨by rfl, fun K hK => ?_⟩
            simp only [List.getElem?_toArray, List.getElem?_cons_zero, List.getElem?_cons_succ]
            go_simp
            refine hK.out _ _ trivial (fun hHeld => ?_)
            clear hK K
            try simp only [Act.put, List.setIfInBounds_toArray, List.set_cons_zero, List.set_cons_succ]
            refine held_c (i := 13) (by kernel_rfl) (by rfl) (fun K hK => ?_)
            simp only [List.getElem?_toArray, List.getElem?_cons_zero, List.getElem?_cons_succ]
            go_simp
            refine hK.out _ _ trivial (fun hHeld => ?_)
            clear hK K
            try simp only [Act.put, List.setIfInBounds_toArray, List.set_cons_zero, List.set_cons_succ]
            refine held_w (i := 14) (d := some 75) (v := ?_) rfl (by kernel_rfl) (by kernel_rfl) (by kernel_rfl) (fun _ _ _ h => h) (by rfl) ?_ hHeld ?_
            rotate_left
            · intro w' hSw; obtain ⟨q0⟩ := hSw; simp only [List.getElem?_toArray, List.getElem?_cons_zero, List.getElem?_cons_succ]; go_simp; try with_reducible rfl
            try simp only [Act.put, List.setIfInBounds_toArray, List.set_cons_zero, List.set_cons_succ]
            refine held_c (i := 15) (by kernel_rfl) (by rfl) (fun K hK => ?_)
            simp only [List.getElem?_toArray, List.getElem?_cons_zero, List.getElem?_cons_succ]
            go_simp
            refine hK.out _ _ trivial (fun hHeld => ?_)
            clear hK K
            try simp only [Act.put, List.setIfInBounds_toArray, List.set_cons_zero, List.set_cons_succ]
            refine held_w (i := 16) (d := some 76) (v := ?_) rfl (by kernel_rfl) (by kernel_rfl) (by kernel_rfl) (fun _ _ _ h => h) (by rfl) ?_ hHeld ?_
            rotate_left
            · intro w' hSw; obtain ⟨q0⟩ := hSw; simp only [List.getElem?_toArray, List.getElem?_cons_zero, List.getElem?_cons_succ]; go_simp; try with_reducible rfl
            try simp only [Act.put, List.setIfInBounds_toArray, List.set_cons_zero, List.set_cons_succ]
            refine held_c (i := 17) (by kernel_rfl) (by rfl) (fun K hK => ?_)
            simp only [List.getElem?_toArray, List.getElem?_cons_zero, List.getElem?_cons_succ]
            go_simp
            refine hK.out _ _ trivial (fun hHeld => ?_)
            clear hK K
            try simp only [Act.put, List.setIfInBounds_toArray, List.set_cons_zero, List.set_cons_succ]
            refine wpAnyH_done (by kernel_rfl) ?_ _
            have hp := HP2.out _ HRR.out
            rw [HE2.out] at hp
            have hbf := below_four hbr hg (u * 2) (u * 2 + 1) ((u + 1) * 2) ((u + 1) * 2 + 1) (.string (str z.1)) (.string (str z.2)) (.string (str x.1)) (.string (str x.2))
            have HPP := Lib.hid hp
            clear hp hHeld y0 y1 fy0 fy1 x0 x1 fx0 fx1
            generalize (((wr.setCell ⟨g, u * 2, none⟩ (.string (str z.1))).setCell ⟨g, u * 2 + 1, none⟩ (.string (str z.2))).setCell ⟨g, (u + 1) * 2, none⟩ (.string (str x.1))).setCell ⟨g, (u + 1) * 2 + 1, none⟩ (.string (str x.2)) = wz at *
            go_wp2_with fail
            go_roundw
            case rel => exact ⟨t + 1, by rw [HU.out]; simp; omega, by omega, HPP.out.drew, hbf.drew⟩
            case measure => simp [intOf]; omega
          · refine ⟨by rfl, fun K hK => ?_⟩
            simp only [List.getElem?_toArray, List.getElem?_cons_zero, List.getElem?_cons_succ]
            go_simp
            refine hK.out _ _ trivial (fun hHeld => ?_)
            clear hK K
            try simp only [Act.put, List.setIfInBounds_toArray, List.set_cons_zero, List.set_cons_succ]
            refine held_c (i := 9) (by kernel_rfl) (by rfl) (fun K hK => ?_)
            simp only [List.getElem?_toArray, List.getElem?_cons_zero, List.getElem?_cons_succ]
            go_simp
            refine hK.out _ _ trivial (fun hHeld => ?_)
            clear hK K
            try simp only [Act.put, List.setIfInBounds_toArray, List.set_cons_zero, List.set_cons_succ]
            refine held_w (i := 14) (d := some 75) (v := ?_) rfl (by kernel_rfl) (by kernel_rfl) (by kernel_rfl) (fun _ _ _ h => h) (by rfl) ?_ hHeld ?_
            rotate_left
            · intro w' hSw; obtain ⟨q0⟩ := hSw; simp only [List.getElem?_toArray, List.getElem?_cons_zero, List.getElem?_cons_succ]; go_simp; try with_reducible rfl
            try simp only [Act.put, List.setIfInBounds_toArray, List.set_cons_zero, List.set_cons_succ]
            refine held_c (i := 15) (by kernel_rfl) (by rfl) (fun K hK => ?_)
            simp only [List.getElem?_toArray, List.getElem?_cons_zero, List.getElem?_cons_succ]
            go_simp
            refine hK.out _ _ trivial (fun hHeld => ?_)
            clear hK K
            try simp only [Act.put, List.setIfInBounds_toArray, List.set_cons_zero, List.set_cons_succ]
            refine held_w (i := 16) (d := some 76) (v := ?_) rfl (by kernel_rfl) (by kernel_rfl) (by kernel_rfl) (fun _ _ _ h => h) (by rfl) ?_ hHeld ?_
            rotate_left
            · intro w' hSw; obtain ⟨q0⟩ := hSw; simp only [List.getElem?_toArray, List.getElem?_cons_zero, List.getElem?_cons_succ]; go_simp; try with_reducible rfl
            try simp only [Act.put, List.setIfInBounds_toArray, List.set_cons_zero, List.set_cons_succ]
            refine held_c (i := 17) (by kernel_rfl) (by rfl) (fun K hK => ?_)
            simp only [List.getElem?_toArray, List.getElem?_cons_zero, List.getElem?_cons_succ]
            go_simp
            refine hK.out _ _ trivial (fun hHeld => ?_)
            clear hK K
            try simp only [Act.put, List.setIfInBounds_toArray, List.set_cons_zero, List.set_cons_succ]
            refine wpAnyH_done (by kernel_rfl) ?_ _
            have hp := HP2.out _ HRR.out
            rw [HE2.out] at hp
            have hbf := below_four hbr hg (u * 2) (u * 2 + 1) ((u + 1) * 2) ((u + 1) * 2 + 1) (.string (str z.1)) (.string (str z.2)) (.string (str x.1)) (.string (str x.2))
            have HPP := Lib.hid hp
            clear hp hHeld y0 y1 fy0 fy1 x0 x1 fx0 fx1
            generalize (((wr.setCell ⟨g, u * 2, none⟩ (.string (str z.1))).setCell ⟨g, u * 2 + 1, none⟩ (.string (str z.2))).setCell ⟨g, (u + 1) * 2, none⟩ (.string (str x.1))).setCell ⟨g, (u + 1) * 2 + 1, none⟩ (.string (str x.2)) = wz at *
            go_wp2_with fail
            go_roundw
            case rel => exact ⟨t + 1, by rw [HU.out]; simp; omega, by omega, HPP.out.drew, hbf.drew⟩
            case measure => simp [intOf]; omega
        · obtain rfl : t = k0 := by omega
          have hnl : ¬ (u : Int) < (i1 : Int) := by omega
          clear hu
          have HF : Hid (RowL g (P ++ (C1 ++ x :: C2) ++ S) wr) := by
            show RowL _ _ _
            rw [List.take_of_length_le (by omega), List.drop_eq_nil_of_le (by omega)] at hrow
            simpa using hrow
          go_wp2_with fail
          refine bodyPost_ret (results_none rfl _ _ _) rfl ?_
          exact ⟨rfl, ⟨C1 ++ x :: C2, by simpa using HF.out, HMF.out.1, HMF.out.2, by simp; omega⟩, hbr⟩
end Go.Proofs.Ytopnnhjfcfhihaa
