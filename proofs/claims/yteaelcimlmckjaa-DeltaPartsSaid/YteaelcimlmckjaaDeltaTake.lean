/-
  Layer 3 (delta): the numbers of samples, one by one (for the loops). Plain mathematics; it names no program.
-/
import Derived.Test.YteaelcimlmckjaaDeltaPure
namespace Go.Proofs.Yteaelcimlmckjaa
open Go.RowKit

/-- The time, the value, the distance that stand ahead of the k-th sample. -/
def ptAt (pt : Int) (r : List Smp) : Nat → Int
  | 0 => pt
  | k + 1 => (r.getD k (0, 0)).1
def pvAt (pv : Int) (r : List Smp) : Nat → Int
  | 0 => pv
  | k + 1 => (r.getD k (0, 0)).2
def pdAt (pt pd : Int) (r : List Smp) : Nat → Int
  | 0 => pd
  | k + 1 => (r.getD k (0, 0)).1 - ptAt pt r k
theorem ptAt_cons (pt : Int) (s : Smp) (r : List Smp) (k : Nat) : ptAt pt (s :: r) (k + 1) = ptAt s.1 r k := by cases k <;> rfl
theorem pvAt_cons (pv : Int) (s : Smp) (r : List Smp) (k : Nat) : pvAt pv (s :: r) (k + 1) = pvAt s.2 r k := by cases k <;> rfl
theorem pdAt_cons (pt pd : Int) (s : Smp) (r : List Smp) (k : Nat) : pdAt pt pd (s :: r) (k + 1) = pdAt s.1 (s.1 - pt) r k := by
  cases k with
  | zero => rfl
  | succ k =>
    show ((s :: r).getD (k + 1) (0, 0)).1 - ptAt pt (s :: r) (k + 1) = _
    rw [ptAt_cons]; rfl
theorem tsF_take (r : List Smp) : ∀ (pt pd : Int) (k : Nat) (h : k < r.length), (tsF pt pd r).take (k + 1) = (tsF pt pd r).take k ++ [(fold (r[k].1 - ptAt pt r k - pdAt pt pd r k)).toNat] := by
  induction r with
  | nil => intro pt pd k h; simp at h
  | cons s r ih =>
    intro pt pd k h
    cases k with
    | zero => rfl
    | succ k =>
      have := ih s.1 (s.1 - pt) k (by simpa using h)
      simp only [tsF, List.take_succ_cons, List.getElem_cons_succ, ptAt_cons, pdAt_cons, List.cons_append]
      rw [this]
theorem vsF_take (r : List Smp) : ∀ (pv : Int) (k : Nat) (h : k < r.length), (vsF pv r).take (k + 1) = (vsF pv r).take k ++ [(fold (wrap64 (r[k].2 - pvAt pv r k))).toNat] := by
  induction r with
  | nil => intro pv k h; simp at h
  | cons s r ih =>
    intro pv k h
    cases k with
    | zero => rfl
    | succ k =>
      have := ih s.2 k (by simpa using h)
      simp only [vsF, List.take_succ_cons, List.getElem_cons_succ, pvAt_cons, List.cons_append]
      rw [this]
theorem pairB_take (a b : Nat) (xs : List Nat) : ∀ (ys : List Nat) (k : Nat) (h : k < xs.length) (h' : k < ys.length),
    pairB a b (xs.take (k + 1)) (ys.take (k + 1)) = pairB a b (xs.take k) (ys.take k) ++ (code xs[k] a ++ code ys[k] b) := by
  induction xs with
  | nil => intro ys k h; simp at h
  | cons x xs ih =>
    intro ys k h h'
    cases ys with
    | nil => simp at h'
    | cons y ys =>
      cases k with
      | zero => simp [pairB]
      | succ k =>
        have := ih ys k (by simpa using h) (by simpa using h')
        simp only [List.take_succ_cons, pairB, List.getElem_cons_succ]
        rw [this]
        simp
/-- In a row that rises, each time is above the one ahead, and the distances are below MaxTime. -/
theorem rises_at (r : List Smp) : ∀ (pt : Int) (k : Nat) (h : k < r.length), rises pt r → ptAt pt r k < r[k].1 ∧ r[k].1 < 1099511627776 ∧ pt ≤ ptAt pt r k := by
  induction r with
  | nil => intro pt k h; simp at h
  | cons s r ih =>
    intro pt k h hr
    obtain ⟨r1, r2, r3⟩ := hr
    cases k with
    | zero => exact ⟨r1, r2, Int.le_refl _⟩
    | succ k =>
      have h2 := ih s.1 k (by simpa using h) r3
      rw [ptAt_cons]
      exact ⟨h2.1, h2.2.1, by omega⟩
theorem pdAt_range (r : List Smp) (pt : Int) (h0 : 0 ≤ pt) (k : Nat) (h : k ≤ r.length) (hr : rises pt r) : 0 ≤ pdAt pt 0 r k ∧ pdAt pt 0 r k ≤ 1099511627776 := by
  cases k with
  | zero => exact ⟨Int.le_refl _, by show (0 : Int) ≤ _; omega⟩
  | succ k =>
    obtain ⟨a, b, c⟩ := rises_at r pt k (by omega) hr
    show 0 ≤ (r.getD k (0, 0)).1 - ptAt pt r k ∧ (r.getD k (0, 0)).1 - ptAt pt r k ≤ _
    have e : r.getD k (0, 0) = r[k] := by simp [List.getD_eq_getElem?_getD, show k < r.length by omega]
    rw [e]
    omega
/-- The read loop: what is still to come. -/
theorem stepsD_more {a b : Nat} {pt pv pd : Int} {bs : List Bool} {m : Nat} (h1 : decE bs a = 0) (h2 : decE (bs.drop (decN bs a)) b = 0) (h3 : unfold (decV bs a) ≤ 1099511627776) (h4 : -1099511627776 ≤ unfold (decV bs a))
    (h5 : 1 ≤ pd + unfold (decV bs a)) (h6 : pd + unfold (decV bs a) ≤ 1099511627776) (h7 : pt + (pd + unfold (decV bs a)) < 1099511627776) :
    stepsD a b pt pv pd bs (m + 1) = (stepsD a b (pt + (pd + unfold (decV bs a))) (wrap64 (pv + unfold (decV (bs.drop (decN bs a)) b))) (pd + unfold (decV bs a)) (bs.drop (decN bs a + decN (bs.drop (decN bs a)) b)) m).map
      (fun r => (pt + (pd + unfold (decV bs a)), wrap64 (pv + unfold (decV (bs.drop (decN bs a)) b))) :: r) := by
  show (if _ then none else _) = _
  rw [if_neg (by omega), if_neg (by omega), if_neg (by omega)]
theorem tsF_lt (r : List Smp) : ∀ (pt pd : Int), 0 ≤ pt → pt < 1099511627776 → 0 ≤ pd → pd ≤ 1099511627776 → rises pt r → ∀ x, x ∈ tsF pt pd r → x < 18446744073709551616 := by
  induction r with
  | nil => intro pt pd _ _ _ _ _ x hx; simp [tsF] at hx
  | cons s r ih =>
    intro pt pd h1 h2 h3 h4 hr x hx
    obtain ⟨r1, r2, r3⟩ := hr
    rcases List.mem_cons.1 hx with rfl | hx
    · have := fold_range (s.1 - pt - pd) (by omega) (by omega)
      omega
    · exact ih s.1 (s.1 - pt) (by omega) r2 (by omega) (by omega) r3 x hx
theorem vsF_lt (r : List Smp) : ∀ (pv : Int) (x : Nat), x ∈ vsF pv r → x < 18446744073709551616 := by
  induction r with
  | nil => intro pv x hx; simp [vsF] at hx
  | cons s r ih =>
    intro pv x hx
    rcases List.mem_cons.1 hx with rfl | hx
    · have h := wrap_range (s.2 - pv)
      have := fold_range _ h.1 h.2
      omega
    · exact ih s.2 x hx
/-- The time ahead of the i-th sample. -/
def prevT (l : List Smp) : Nat → Int
  | 0 => -1
  | i + 1 => (l.getD i (0, 0)).1
theorem rises_drop (l : List Smp) (i : Nat) (h : i < l.length) : rises (prevT l i) (l.drop i) ↔ prevT l i < l[i].1 ∧ l[i].1 < 1099511627776 ∧ rises (prevT l (i + 1)) (l.drop (i + 1)) := by
  rw [List.drop_eq_getElem_cons h]
  have e : prevT l (i + 1) = l[i].1 := by simp [prevT, List.getD_eq_getElem?_getD, h]
  rw [e]
  exact Iff.rfl
theorem prevT_succ (l : List Smp) (i : Nat) (h : i < l.length) : prevT l (i + 1) = l[i].1 := by simp [prevT, List.getD_eq_getElem?_getD, h]
end Go.Proofs.Yteaelcimlmckjaa
