/-
  Layer 3 (delta): the iterator of Encode's numbers.
-/
import Derived.Test.YteaelcimlmckjaaDeltaMem
import Derived.Test.YteaelcimlmckjaaDeltaTake
import Derived.Shelf.Abstract
import Derived.WalkKit
import Derived.OwnWalkIn
import Derived.TacticsInMore
import Derived.LoopNIn
import Derived.LoopIn
import Derived.Test.YteaelcimlmckjaaHeldIn
namespace Go.Proofs.Yteaelcimlmckjaa
open Go.RowKit Go.Deep
attribute [local go_sem] Oper.semAt_some
set_option linter.unusedVariables false
set_option linter.unusedSimpArgs false

/-- The numbers, pair by pair. -/
def pairsF (t0 v0 : Int) (r : List Smp) : List (Nat × Nat) := (tsF t0 0 r).zip (vsF v0 r)
theorem pairsF_length (t0 v0 : Int) (r : List Smp) : (pairsF t0 v0 r).length = r.length := by simp [pairsF, tsF_length, vsF_length]
theorem numbers_c (A : Option Addr) (len cap : Nat) (w : World) : Calls Try.prog 41 #[.slice A len cap] w fun e w' =>
    e = .returned (.func (.func 54) #[] #[.pointer (some ⟨w.heap.size, 0, none⟩)]) ∧ w' = w.alloc (.cells #[.slice A len cap] 22) := by
  go_enter Try.func41, Try.ntmps41
  go_wp2_with fail
  go_ret
  exact ⟨rfl, rfl⟩
theorem pairsF_take (t0 v0 : Int) (r : List Smp) (k : Nat) (h : k < r.length) : (pairsF t0 v0 r).take (k + 1) = (pairsF t0 v0 r).take k ++ [((fold (r[k].1 - ptAt t0 r k - pdAt t0 0 r k)).toNat, (fold (wrap64 (r[k].2 - pvAt v0 r k))).toNat)] := by
  unfold pairsF
  rw [List.zip_eq_zipWith, List.take_zipWith, List.take_zipWith, tsF_take r t0 0 k h, vsF_take r v0 k h, List.zipWith_append (by simp [tsF_length, vsF_length])]
  rfl
def encP (x : Nat × Nat) : Array Value := #[.int .u64 (x.1 : Int), .int .u64 (x.2 : Int)]
set_option maxRecDepth 100000 in
set_option maxHeartbeats 2000000 in
theorem numbers1_tells (n n₀ b : Nat) (hn1 : 1 ≤ n) (F : List Nat) (ty : TypeId) (A : Option Addr) (cap : Nat) (t0 v0 : Int) (r : List Smp) (w0 w : World) (hn : n₀ = w0.heap.size) (hw : Below n₀ w0 w)
    (hbox : w.heap[b]? = some (.cells #[.slice A (r.length + 1) cap] 22 (0, 0))) (hbF : b ∉ F) (hty : ty ≠ 22)
    (hA : SAt w0 A (r.length + 1) ((t0, v0) :: r)) (h0t : 0 ≤ t0) (hrl : r.length ≤ 100000) (hris : rises t0 r) :
    Tells Fence.wide n Try.prog 54 #[.pointer (some ⟨b, 0, none⟩)] encP (fun _ => false) (Spared n₀ F ty) (pairsF t0 v0 r) w := by
  intro l J W hW hJ hY h0
  have hWb : W.heap[b]? = some (.cells #[.slice A (r.length + 1) cap] 22 (0, 0)) := (hW.block b (lt_of_block hbox)).trans hbox
  have hWn : Below n₀ w0 W := hw.trans (hW.mono (by have := hw.size; omega))
  refine callsIn_of_wp Try.func54 rfl trivial ?_ rfl
  simp only [Try.ntmps54, List.size_toArray, List.length_cons, List.length_nil, Nat.reduceAdd, Nat.reduceSub, Array.replicate_succ, Array.replicate_zero, List.push_toArray, List.append_toArray, List.nil_append, List.cons_append]
  gi_wp2
  gi_loopw [3, 4] (fun d i wr => ∃ k : Nat, k ≤ r.length ∧ i = .int .i64 ((k : Int) + 1) ∧ d = .int .i64 (pdAt t0 0 r k) ∧ J ((pairsF t0 v0 r).take k) wr ∧ Below n₀ w0 wr ∧ wr.heap[b]? = some (.cells #[.slice A (r.length + 1) cap] 22 (0, 0)))
    (fun d i _ => r.length + 1 - (intOf i).toNat)
  case atStart => exact ⟨0, Nat.zero_le _, rfl, rfl, h0, hWn, hWb⟩
  case round =>
    obtain ⟨k, hk, rfl, rfl, hJs, hnx, hbx⟩ := hrel
    have hcb := blk_cell hbx 0
    simp at hcb
    by_cases hlt : k < r.length
    · subst hn
      have hlc : k + 1 < ((t0, v0) :: r).length := by simp; omega
      have hlp : k < ((t0, v0) :: r).length := by simp; omega
      obtain ⟨⟨r1, r2, r3, r4⟩, ad, rfl, h2, h3, h4⟩ := hA.2 (k + 1) hlc
      obtain ⟨⟨s1, s2, s3, s4⟩, ad', had, k2, k3, k4⟩ := hA.2 k hlp
      obtain rfl : ad = ad' := by injection had
      have e1 : ((t0, v0) :: r)[k + 1] = r[k] := by simp
      have e2 : ((t0, v0) :: r)[k]'hlp = (ptAt t0 r k, pvAt v0 r k) := by
        cases k with
        | zero => rfl
        | succ k => simp [ptAt, pvAt, List.getD_eq_getElem?_getD, show k < r.length by omega]
      rw [e1] at r1 r2 r3 r4 h3 h4
      rw [e2] at s1 s2 s3 s4 k3 k4
      have hra := rises_at r t0 k hlt hris
      have hpd := pdAt_range r t0 h0t k (by omega) hris
      have htk := pairsF_take t0 v0 r k hlt
      have hpn : pdAt t0 0 r (k + 1) = r[k].1 - ptAt t0 r k := by simp [pdAt, List.getD_eq_getElem?_getD, hlt]
      obtain ⟨t1, ht1⟩ : ∃ x, r[k].1 = x := ⟨_, rfl⟩
      obtain ⟨v1, hv1⟩ : ∃ x, r[k].2 = x := ⟨_, rfl⟩
      obtain ⟨p, hp⟩ : ∃ x, ptAt t0 r k = x := ⟨_, rfl⟩
      obtain ⟨q, hq⟩ : ∃ x, pvAt v0 r k = x := ⟨_, rfl⟩
      obtain ⟨d, hd⟩ : ∃ x, pdAt t0 0 r k = x := ⟨_, rfl⟩
      rw [ht1, hp] at hra hpn
      rw [ht1, hv1, hp, hq, hd] at htk
      rw [ht1] at r1 r2 h3
      rw [hv1] at r3 r4 h4
      rw [hd] at hpd ⊢
      rw [hp] at s1 s2 k3
      rw [hq] at s3 s4 k4
      simp only at s1 s2 s3 s4 k3 k4
      clear ht1 hv1 hp hq hd e1 e2 had
      have HC := Lib.hid (fun (W : World) (hW : Below w0.heap.size w0 W) => (And.intro ((hW.cell (p := ⟨(ad.add ((k + 1) * 2)).block, (ad.add ((k + 1) * 2)).off + 1, none⟩) h2).trans h4) ((hW.cell (p := ⟨(ad.add (k * 2)).block, (ad.add (k * 2)).off + 1, none⟩) k2).trans k4)))
      have h3 := (hnx.cell (p := ad.add ((k + 1) * 2)) h2).trans h3
      have k3 := (hnx.cell (p := ad.add (k * 2)) k2).trans k3
      clear h4 k4
      obtain ⟨D, hD⟩ : ∃ D, t1 - p = D := ⟨_, rfl⟩
      rw [hD] at htk hpn
      have sD : IntKind.i64.wrap (t1 - p) = D := by rw [hD]; exact IntWalk.i64_in _ (by omega)
      have hDr : 1 ≤ D ∧ D ≤ 1099511627776 := by omega
      obtain ⟨X, hX⟩ : ∃ X, D - d = X := ⟨_, rfl⟩
      rw [hX] at htk
      have sX : IntKind.i64.wrap (D - d) = X := by rw [hX]; exact IntWalk.i64_in _ (by omega)
      have hXr : -9223372036854775808 ≤ X ∧ X ≤ 9223372036854775807 := by omega
      have sS : IntKind.i64.wrap (d + X) = D := by rw [← hX, show d + (D - d) = D by omega]; exact IntWalk.i64_in _ (by omega)
      obtain ⟨Y, hYY⟩ : ∃ Y, wrap64 (v1 - q) = Y := ⟨_, rfl⟩
      have hYr : -9223372036854775808 ≤ Y ∧ Y ≤ 9223372036854775807 := by rw [← hYY]; exact wrap_range _
      rw [hYY] at htk
      have sY : IntKind.i64.wrap (v1 - q) = Y := by rw [← hYY, IntKind.wrap_i64]; unfold wrap64; omega
      have hfx := (fold_toNat X).symm
      have hfy := (fold_toNat Y).symm
      obtain ⟨x, hx⟩ : ∃ x, (fold X).toNat = x := ⟨_, rfl⟩
      obtain ⟨y, hy⟩ : ∃ y, (fold Y).toNat = y := ⟨_, rfl⟩
      rw [hx] at hfx
      rw [hy] at hfy
      rw [hx, hy] at htk
      have hsplit : pairsF t0 v0 r = (pairsF t0 v0 r).take k ++ (x, y) :: (pairsF t0 v0 r).drop (k + 1) := by
        have h := List.take_append_drop (k + 1) (pairsF t0 v0 r)
        rw [htk] at h
        simpa using h.symm
      have hyk := fun (W : World) (hW : Keeps [] wr W) => hY ((pairsF t0 v0 r).take k) (x, y) ((pairsF t0 v0 r).drop (k + 1)) W (hJ _ _ _ [] hJs hW (by simp)) hsplit
      have HYK := Lib.hid hyk
      have HPN := Lib.hid (And.intro hpn htk)
      have w3 : IntKind.i64.wrap ((k : Int) + 1 - 1) = (k : Int) := by rw [show (k : Int) + 1 - 1 = k by omega]; exact IntWalk.i64_in _ (by omega)
      have wk : IntKind.i64.wrap (k : Int) = (k : Int) := IntWalk.i64_in _ (by omega)
      have q1 : (0 : Int) ≤ (k : Int) + 1 := by omega
      have q2 : (k : Int) + 1 < ((r.length + 1 : Nat) : Int) := by omega
      have q3 : ((k : Int) + 1).toNat = k + 1 := by omega
      have q5 : (k : Int) < (r.length : Int) + 1 := by omega
      have q8 : (k : Int) < (r.length : Int) := by omega
      have q6 : k < r.length + 1 := by omega
      clear hD hX hYY hx hy hpn htk hra hpd hsplit hyk hW hWb hWn h0 hA hris
      gi_wp2
      refine wpIn_wide.2 ?_
      go_quiet (fail)
      gi_wp2
      obtain ⟨fn, tmps, assign, body, hy, hR⟩ := HYK.out (wr.drewN (nq + 1)) ((Keeps.refl [] wr).drewN (nq + 1))
      dsimp only [encP] at hy
      have HH := Lib.hid (And.intro hnx hbx)
      obtain ⟨c4, d4⟩ := HC.out _ (below_drewN hnx (nq + 1))
      have hcb2 : (wr.drewN (nq + 1)).cell? ⟨b, 0, none⟩ = some (.slice (some ad) (r.length + 1) cap) := hcb
      clear hJs h3 k3 h2 k2 hY hJ hnx hbx hcb
      refine region_heldIn (S := fun w' => w'.cell? ⟨b, 0, none⟩ = some (.slice (some ad) (r.length + 1) cap) ∧ w'.cell? ⟨(ad.add ((k + 1) * 2)).block, (ad.add ((k + 1) * 2)).off + 1, none⟩ = some (.int .i64 v1) ∧ w'.cell? ⟨(ad.add (k * 2)).block, (ad.add (k * 2)).off + 1, none⟩ = some (.int .i64 q)) (by kernel_rfl) ⟨hcb2, c4, d4⟩ (fun hHeld => ?_)
      refine heldIn_w (fun _ => trivial) (by kernel_rfl) (i := 0) (d := some 26) (v := ?_) rfl (by kernel_rfl) (by kernel_rfl) (by kernel_rfl) (fun _ _ _ h => h) (by rfl) ?_ hHeld ?_
      rotate_left
      · intro w' hSw; obtain ⟨q0, q1, q2⟩ := hSw; simp only [List.getElem?_toArray, List.getElem?_cons_zero, List.getElem?_cons_succ]; go_simp; try with_reducible rfl
      try simp only [Act.put, List.setIfInBounds_toArray, List.set_cons_zero, List.set_cons_succ]
      refine heldIn_w (fun _ => trivial) (by kernel_rfl) (i := 1) (d := some 27) (v := ?_) rfl (by kernel_rfl) (by kernel_rfl) (by kernel_rfl) (fun _ _ _ h => h) (by rfl) ?_ hHeld ?_
      rotate_left
      · intro w' hSw; obtain ⟨q0, q1, q2⟩ := hSw; simp only [List.getElem?_toArray, List.getElem?_cons_zero, List.getElem?_cons_succ]; go_simp; try with_reducible rfl
      try simp only [Act.put, List.setIfInBounds_toArray, List.set_cons_zero, List.set_cons_succ]
      refine heldIn_w (fun _ => trivial) (by kernel_rfl) (i := 3) (d := some 29) (v := ?_) rfl (by kernel_rfl) (by kernel_rfl) (by kernel_rfl) (fun _ _ _ h => h) (by rfl) ?_ hHeld ?_
      rotate_left
      · intro w' hSw; obtain ⟨q0, q1, q2⟩ := hSw; simp only [List.getElem?_toArray, List.getElem?_cons_zero, List.getElem?_cons_succ]; go_simp; try with_reducible rfl
      try simp only [Act.put, List.setIfInBounds_toArray, List.set_cons_zero, List.set_cons_succ]
      refine heldIn_w (fun _ => trivial) (by kernel_rfl) (i := 4) (d := some 30) (v := ?_) rfl (by kernel_rfl) (by kernel_rfl) (by kernel_rfl) (fun _ _ _ h => h) (by rfl) ?_ hHeld ?_
      rotate_left
      · intro w' hSw; obtain ⟨q0, q1, q2⟩ := hSw; simp only [List.getElem?_toArray, List.getElem?_cons_zero, List.getElem?_cons_succ]; go_simp; try with_reducible rfl
      try simp only [Act.put, List.setIfInBounds_toArray, List.set_cons_zero, List.set_cons_succ]
      refine heldIn_w (fun _ => trivial) (by kernel_rfl) (i := 5) (d := some 31) (v := ?_) rfl (by kernel_rfl) (by kernel_rfl) (by kernel_rfl) (fun _ _ _ h => h) (by rfl) ?_ hHeld ?_
      rotate_left
      · intro w' hSw; obtain ⟨q0, q1, q2⟩ := hSw; simp only [List.getElem?_toArray, List.getElem?_cons_zero, List.getElem?_cons_succ]; go_simp; try with_reducible rfl
      try simp only [Act.put, List.setIfInBounds_toArray, List.set_cons_zero, List.set_cons_succ]
      refine heldIn_w (fun _ => trivial) (by kernel_rfl) (i := 6) (d := some 32) (v := ?_) rfl (by kernel_rfl) (by kernel_rfl) (by kernel_rfl) (fun _ _ _ h => h) (by rfl) ?_ hHeld ?_
      rotate_left
      · intro w' hSw; obtain ⟨q0, q1, q2⟩ := hSw; simp only [List.getElem?_toArray, List.getElem?_cons_zero, List.getElem?_cons_succ]; go_simp; try with_reducible rfl
      try simp only [Act.put, List.setIfInBounds_toArray, List.set_cons_zero, List.set_cons_succ]
      refine heldIn_w (fun _ => trivial) (by kernel_rfl) (i := 7) (d := some 33) (v := ?_) rfl (by kernel_rfl) (by kernel_rfl) (by kernel_rfl) (fun _ _ _ h => h) (by rfl) ?_ hHeld ?_
      rotate_left
      · intro w' hSw; obtain ⟨q0, q1, q2⟩ := hSw; simp only [List.getElem?_toArray, List.getElem?_cons_zero, List.getElem?_cons_succ]; go_simp; try with_reducible rfl
      try simp only [Act.put, List.setIfInBounds_toArray, List.set_cons_zero, List.set_cons_succ]
      refine heldIn_w (fun _ => trivial) (by kernel_rfl) (i := 8) (d := some 34) (v := ?_) rfl (by kernel_rfl) (by kernel_rfl) (by kernel_rfl) (fun _ _ _ h => h) (by rfl) ?_ hHeld ?_
      rotate_left
      · intro w' hSw; obtain ⟨q0, q1, q2⟩ := hSw; simp only [List.getElem?_toArray, List.getElem?_cons_zero, List.getElem?_cons_succ]; go_simp; try with_reducible rfl
      try simp only [Act.put, List.setIfInBounds_toArray, List.set_cons_zero, List.set_cons_succ]
      refine heldIn_w (fun _ => trivial) (by kernel_rfl) (i := 9) (d := some 35) (v := ?_) rfl (by kernel_rfl) (by kernel_rfl) (by kernel_rfl) (fun _ _ _ h => h) (by rfl) ?_ hHeld ?_
      rotate_left
      · intro w' hSw; obtain ⟨q0, q1, q2⟩ := hSw; simp only [List.getElem?_toArray, List.getElem?_cons_zero, List.getElem?_cons_succ]; go_simp; try with_reducible rfl
      try simp only [Act.put, List.setIfInBounds_toArray, List.set_cons_zero, List.set_cons_succ]
      refine heldIn_w (fun _ => trivial) (by kernel_rfl) (i := 10) (d := some 36) (v := ?_) rfl (by kernel_rfl) (by kernel_rfl) (by kernel_rfl) (fun _ _ _ h => h) (by rfl) ?_ hHeld ?_
      rotate_left
      · intro w' hSw; obtain ⟨q0, q1, q2⟩ := hSw; simp only [List.getElem?_toArray, List.getElem?_cons_zero, List.getElem?_cons_succ]; go_simp; try with_reducible rfl
      try simp only [Act.put, List.setIfInBounds_toArray, List.set_cons_zero, List.set_cons_succ]
      refine heldIn_w (fun _ => trivial) (by kernel_rfl) (i := 11) (d := some 37) (v := ?_) rfl (by kernel_rfl) (by kernel_rfl) (by kernel_rfl) (fun _ _ _ h => h) (by rfl) ?_ hHeld ?_
      rotate_left
      · intro w' hSw; obtain ⟨q0, q1, q2⟩ := hSw; simp only [List.getElem?_toArray, List.getElem?_cons_zero, List.getElem?_cons_succ]; go_simp; try with_reducible rfl
      try simp only [Act.put, List.setIfInBounds_toArray, List.set_cons_zero, List.set_cons_succ]
      refine heldIn_w (fun _ => trivial) (by kernel_rfl) (i := 12) (d := some 38) (v := ?_) rfl (by kernel_rfl) (by kernel_rfl) (by kernel_rfl) (fun _ _ _ h => h) (by rfl) ?_ hHeld ?_
      rotate_left
      · intro w' hSw; obtain ⟨q0, q1, q2⟩ := hSw; simp only [List.getElem?_toArray, List.getElem?_cons_zero, List.getElem?_cons_succ]; go_simp; try with_reducible rfl
      try simp only [Act.put, List.setIfInBounds_toArray, List.set_cons_zero, List.set_cons_succ]
      refine heldIn_w (fun _ => trivial) (by kernel_rfl) (i := 13) (d := some 39) (v := ?_) rfl (by kernel_rfl) (by kernel_rfl) (by kernel_rfl) (fun _ _ _ h => h) (by rfl) ?_ hHeld ?_
      rotate_left
      · intro w' hSw; obtain ⟨q0, q1, q2⟩ := hSw; simp only [List.getElem?_toArray, List.getElem?_cons_zero, List.getElem?_cons_succ]; go_simp; try with_reducible rfl
      try simp only [Act.put, List.setIfInBounds_toArray, List.set_cons_zero, List.set_cons_succ]
      refine heldIn_w (fun _ => trivial) (by kernel_rfl) (i := 14) (d := some 40) (v := ?_) rfl (by kernel_rfl) (by kernel_rfl) (by kernel_rfl) (fun _ _ _ h => h) (by rfl) ?_ hHeld ?_
      rotate_left
      · intro w' hSw; obtain ⟨q0, q1, q2⟩ := hSw; simp only [List.getElem?_toArray, List.getElem?_cons_zero, List.getElem?_cons_succ]; go_simp; try with_reducible rfl
      try simp only [Act.put, List.setIfInBounds_toArray, List.set_cons_zero, List.set_cons_succ]
      refine heldIn_c (fun _ => trivial) (by kernel_rfl) (i := 2) (by kernel_rfl) (by rfl) (fun K hK => ?_)
      simp only [List.getElem?_toArray, List.getElem?_cons_zero, List.getElem?_cons_succ]
      go_simp
      refine (callsIn_wide.2 (fold_c _ _ hXr.1 hXr.2)).mono ?_
      rintro e w' ⟨rfl, rfl⟩
      rw [hfx]
      refine hK.out _ _ hHeld (fun hHeld => ?_)
      clear hK K
      try simp only [Act.put, List.setIfInBounds_toArray, List.set_cons_zero, List.set_cons_succ]
      refine heldIn_c (fun _ => trivial) (by kernel_rfl) (i := 15) (by kernel_rfl) (by rfl) (fun K hK => ?_)
      simp only [List.getElem?_toArray, List.getElem?_cons_zero, List.getElem?_cons_succ]
      go_simp
      refine (callsIn_wide.2 (fold_c _ _ hYr.1 hYr.2)).mono ?_
      rintro e w' ⟨rfl, rfl⟩
      rw [hfy]
      refine hK.out _ _ hHeld (fun hHeld => ?_)
      clear hK K
      try simp only [Act.put, List.setIfInBounds_toArray, List.set_cons_zero, List.set_cons_succ]
      refine heldIn_c (fun _ => trivial) (by kernel_rfl) (i := 16) (by kernel_rfl) (by rfl) (fun K hK => ?_)
      simp only [List.getElem?_toArray, List.getElem?_cons_zero, List.getElem?_cons_succ]
      go_simp
      refine hR.mono ?_
      rintro e W3 ⟨rfl, hJ3, hk3⟩
      have hn3 : Below w0.heap.size w0 W3 := (below_drewN HH.out.1 (nq + 1)).trans hk3.1
      have hb3 : W3.heap[b]? = some (.cells #[.slice (some ad) (r.length + 1) cap] 22 (0, 0)) := hk3.2 b _ _ _ HH.out.2 (Ne.symm hty) hbF
      have H3 := Lib.hid (And.intro hJ3 (And.intro hn3 hb3))
      refine hK.out _ _ ⟨blk_cell hb3 0, (HC.out _ hn3).1, (HC.out _ hn3).2⟩ (fun hHeld => ?_)
      clear hK K hJ3 hn3 hb3 hk3 hcb2 c4 d4
      try simp only [Act.put, List.setIfInBounds_toArray, List.set_cons_zero, List.set_cons_succ]
      refine heldIn_w (fun _ => trivial) (by kernel_rfl) (i := 17) (d := some 43) (v := ?_) rfl (by kernel_rfl) (by kernel_rfl) (by kernel_rfl) (fun _ _ _ h => h) (by rfl) ?_ hHeld ?_
      rotate_left
      · intro w' hSw; obtain ⟨q0, q1, q2⟩ := hSw; simp only [List.getElem?_toArray, List.getElem?_cons_zero, List.getElem?_cons_succ]; go_simp; try with_reducible rfl
      try simp only [Act.put, List.setIfInBounds_toArray, List.set_cons_zero, List.set_cons_succ]
      refine anyIn_done (by kernel_rfl) ?_ _
      clear hHeld
      gi_wp2
      go_roundw
      case rel => exact ⟨k + 1, by omega, by go_num, by rw [HPN.out.1], by rw [HPN.out.2]; exact H3.out.1, H3.out.2.1, H3.out.2.2⟩
      case measure => simp [intOf]; omega
    · obtain rfl : k = r.length := by omega
      gi_wp2
      go_end0
      refine ⟨⟨_, rfl⟩, ?_⟩
      rw [← pairsF_length t0 v0 r, List.take_length] at hJs
      exact hJs
end Go.Proofs.Yteaelcimlmckjaa
