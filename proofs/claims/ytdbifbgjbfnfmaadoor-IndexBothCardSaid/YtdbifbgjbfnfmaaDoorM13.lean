/-
  Texts of the same seat, one behind the other (merged; each says at its head what it is).
-/
import Derived.Test.YtdbifbgjbfnfmaaDoorM12
import Derived.Test.YtdbifbgjbfnfmaaDoorM07
import Derived.Test.YtdbifbgjbfnfmaaDoorM05
import Derived.Test.YtdbifbgjbfnfmaaDoorM09
import Derived.Test.YtdbifbgjbfnfmaaDoorM04
/-
  Layer 7 (index): the program's maps of maps in memory: who has which value of which name.
-/
namespace Go.Proofs.YtdbifbgjbfnfmaaDoor
open Go.RowKit Go.Deep
set_option linter.unusedVariables false
set_option linter.unusedSimpArgs false
/-- What the inner map of n has at v: none, or a row of the ids, in block r. -/
def Cel (F : List Nat) (w : World) (P : Pst) (n v : Txt) (r : Nat) (o : Option Value) : Prop :=
  (idsP P n v = [] ∧ o = none) ∨ (idsP P n v ≠ [] ∧ r ∈ F ∧ ∃ c, o = some (.slice (some ⟨r, 0, none⟩) (idsP P n v).length c) ∧ NewI 0 (.slice (some ⟨r, 0, none⟩) (idsP P n v).length c) (idsP P n v) w)
/-- Block bo is the outer map; nm: which names have an inner one, at ib; rb: where the rows lie; F: all blocks. -/
structure Hav (F : List Nat) (bo : Nat) (nm : Txt → Bool) (P : Pst) (c : Nat) (D : DataW Value) (ib : Txt → Nat) (rb : Txt → Txt → Nat) (w : World) : Prop where
  bF : bo ∈ F
  has : ∀ n, hasN P n = true → nm n = true
  outer : MapS Tryd.prog 9 w bo c D
  get : ∀ n, getS D n = if nm n = true then some (.map (some (ib n))) else none
  one : ∀ n m, nm n = true → nm m = true → ib n = ib m → n = m
  inner : ∀ n, nm n = true → ib n ∈ F ∧ ib n ≠ bo ∧ ∃ DI, MapS Tryd.prog 9 w (ib n) c DI ∧ ∀ v, Cel F w P n v (rb n v) (getS DI v)
  apart : ∀ n v n' v', idsP P n v ≠ [] → idsP P n' v' ≠ [] → rb n v = rb n' v' → n = n' ∧ v = v'
theorem MapS.isMapObj {P : Program} {k : TypeId} {w : World} {b n : Nat} {D : DataW Value} (h : MapS P k w b n D) : ∃ es clock, w.heap[b]? = some (.map es clock) := by
  obtain ⟨es, clock, hb, _⟩ := h
  exact ⟨es, clock, hb⟩
theorem MapS.ne_cells {P : Program} {k : TypeId} {w : World} {b n : Nat} {D : DataW Value} (h : MapS P k w b n D) {g : Nat} {cs : Array Value} {t : TypeId} {f : Nat × Nat} (hg : w.heap[g]? = some (.cells cs t f)) : b ≠ g := by
  rintro rfl
  obtain ⟨es, clock, hb⟩ := h.isMapObj
  rw [hg] at hb; injection hb with hb; cases hb
theorem NewI.cellsAt {B g n c : Nat} {l : List Int} {w : World} (h : NewI B (.slice (some ⟨g, 0, none⟩) n c) l w) : ∃ cs, w.heap[g]? = some (.cells cs 3 (0, 0)) := by
  rcases h.own.2 with ⟨e, _⟩ | ⟨g', cp, cur, e, hB, hg, _⟩
  · cases e
  · injection e with e1 e2 e3
    injection e1 with e1
    injection e1 with e1
    subst e1
    exact ⟨cur, hg⟩
theorem Cel.keeps {F G : List Nat} {w w' : World} {P : Pst} {n v : Txt} {r : Nat} {o : Option Value} (h : Cel F w P n v r o) (hk : Keeps G w w') (hr : idsP P n v ≠ [] → r ∉ G) : Cel F w' P n v r o := by
  rcases h with h | ⟨h1, h2, c, h3, h4⟩
  · exact .inl h
  · exact .inr ⟨h1, h2, c, h3, h4.keeps hk (fun k hk => by simp [Value.ownBlock] at hk; subst hk; exact hr h1)⟩
theorem Cel.more {F G : List Nat} {w : World} {P : Pst} {n v : Txt} {r : Nat} {o : Option Value} (h : Cel F w P n v r o) (hF : ∀ k ∈ F, k ∈ G) : Cel G w P n v r o := by
  rcases h with h | ⟨h1, h2, h3⟩
  · exact .inl h
  · exact .inr ⟨h1, hF _ h2, h3⟩
theorem Cel.inF {F : List Nat} {w : World} {P : Pst} {n v : Txt} {r : Nat} {o : Option Value} (h : Cel F w P n v r o) (hi : idsP P n v ≠ []) : r ∈ F := by
  rcases h with h | ⟨h1, h2, _⟩
  · exact absurd h.1 hi
  · exact h2
theorem Cel.cellsAt {F : List Nat} {w : World} {P : Pst} {n v : Txt} {r : Nat} {o : Option Value} (h : Cel F w P n v r o) (hi : idsP P n v ≠ []) : ∃ cs, w.heap[r]? = some (.cells cs 3 (0, 0)) := by
  rcases h with h | ⟨h1, h2, c, h3, h4⟩
  · exact absurd h.1 hi
  · exact h4.cellsAt
section
variable {F : List Nat} {bo : Nat} {nm : Txt → Bool} {P : Pst} {c : Nat} {D : DataW Value} {ib : Txt → Nat} {rb : Txt → Txt → Nat} {w : World}
theorem Hav.keeps {G : List Nat} {w' : World} (h : Hav F bo nm P c D ib rb w) (hk : Keeps G w w') (hd : ∀ k ∈ F, k ∉ G) : Hav F bo nm P c D ib rb w' :=
  ⟨h.bF, h.has, h.outer.keeps hk (hd _ h.bF), h.get, h.one, fun n hn => by
    obtain ⟨h1, h2, DI, h3, h4⟩ := h.inner n hn
    exact ⟨h1, h2, DI, h3.keeps hk (hd _ h1), fun v => (h4 v).keeps hk (fun hi => hd _ ((h4 v).inF hi))⟩, h.apart⟩
theorem Hav.below {w' : World} (h : Hav F bo nm P c D ib rb w) (hb : Below w.heap.size w w') : Hav F bo nm P c D ib rb w' := h.keeps (G := []) (Keeps.below hb) (by simp)
theorem Hav.row_lt (h : Hav F bo nm P c D ib rb w) {n v : Txt} (hi : idsP P n v ≠ []) : ∃ cs, w.heap[rb n v]? = some (.cells cs 3 (0, 0)) := by
  obtain ⟨h1, h2, DI, h3, h4⟩ := h.inner n (h.has n (idsP_hasN hi))
  exact (h4 v).cellsAt hi
theorem Hav.start (w : World) : Hav [w.heap.size] w.heap.size (fun _ => false) [] 0 (.map []) (fun _ => 0) (fun _ _ => 0) (w.alloc (.map #[] 0)) :=
  ⟨by simp, fun n hn => by simp [hasN] at hn, mapS_made _ _ w, fun n => by rw [getS_empty]; simp, fun n m h => by simp at h, fun n h => by simp at h, fun n v n' v' h => by simp [idsP] at h⟩
/-- A name that is new: an inner map of its own. -/
theorem Hav.newName (h : Hav F bo nm P c D ib rb w) (hlt : ∀ k ∈ F, k < w.heap.size) {n : Txt} (hn : nm n = false) {b1 : Nat} {w1 w2 : World} (hk1 : Keeps [] w w1) (hb1 : w.heap.size ≤ b1) (hm1 : MapS Tryd.prog 9 w1 b1 0 (.map []))
    (h2 : MapS Tryd.prog 9 w2 bo (c + 1) (D.put (.string n) (.held (.map (some b1))))) (hk2 : Keeps [bo] w1 w2) :
    Hav (b1 :: F) bo (fun x => nm x || decide (x = n)) P (c + 1) (D.put (.string n) (.held (.map (some b1)))) (fun x => if x = n then b1 else ib x) rb w2 := by
  have hbo := hlt _ h.bF
  have hnew : ∀ x, nm x = true → ib x ≠ b1 := fun x hx e => by have := hlt _ (h.inner x hx).1; omega
  have hk : Keeps [bo] w w2 := hk1.more (by simp) |>.trans hk2 (by simp)
  refine ⟨by simp [h.bF], fun x hx => by simp [h.has x hx], h2, fun x => ?_, fun x y hx hy e => ?_, fun x hx => ?_, h.apart⟩
  · by_cases e : x = n
    · subst e; rw [getS_put h.outer.isMap]; simp
    · rw [getS_put_other _ _ e, h.get x]; simp [e]
  · simp only [Bool.or_eq_true, decide_eq_true_eq] at hx hy
    by_cases ex : x = n <;> by_cases ey : y = n
    · rw [ex, ey]
    · simp only [if_pos ex, if_neg ey] at e
      exact absurd e.symm (hnew y (hy.resolve_right ey))
    · simp only [if_neg ex, if_pos ey] at e
      exact absurd e (hnew x (hx.resolve_right ex))
    · simp only [if_neg ex, if_neg ey] at e
      exact h.one x y (hx.resolve_right ex) (hy.resolve_right ey) e
  · simp only [Bool.or_eq_true, decide_eq_true_eq] at hx
    by_cases ex : x = n
    · subst ex
      refine ⟨by simp, by simp; omega, .map [], ?_, fun v => ?_⟩
      · simp only [if_true]
        exact (hm1.keeps hk2 (by simp; omega)).mono (by omega)
      · rw [getS_empty]
        refine .inl ⟨Classical.byContradiction fun hne => ?_, rfl⟩
        have := h.has x (idsP_hasN hne)
        rw [hn] at this; cases this
    · obtain ⟨i1, i2, DI, i3, i4⟩ := h.inner x (hx.resolve_right ex)
      simp only [if_neg ex]
      refine ⟨by simp [i1], i2, DI, (i3.keeps hk (by simpa using i2)).mono (by omega), fun v => ((i4 v).keeps hk (fun hi => ?_)).more (fun k hk => by simp [hk])⟩
      obtain ⟨cs, hcs⟩ := (i4 v).cellsAt hi
      have := h.outer.ne_cells hcs
      intro hm; simp at hm; exact this hm.symm
/-- One id more. -/
theorem Hav.newId (h : Hav F bo nm P c D ib rb w) (hlt : ∀ k ∈ F, k < w.heap.size) {n v : Txt} {i : Nat} (hn : nm n = true) {DI : DataW Value} (hDI : MapS Tryd.prog 9 w (ib n) c DI) (hC : ∀ v, Cel F w P n v (rb n v) (getS DI v))
    {g cap : Nat} {w1 w2 : World} {G : List Nat} (hk1 : Keeps G w w1) (hG : ∀ k ∈ G, idsP P n v ≠ [] ∧ k = rb n v) (hg : (idsP P n v ≠ [] ∧ g = rb n v) ∨ w.heap.size ≤ g)
    (hN : NewI 0 (.slice (some ⟨g, 0, none⟩) ((idsP P n v).length + 1) cap) (idsP P n v ++ [(i : Int)]) w1)
    (h2 : MapS Tryd.prog 9 w2 (ib n) (c + 1) (DI.put (.string v) (.held (.slice (some ⟨g, 0, none⟩) ((idsP P n v).length + 1) cap)))) (hk2 : Keeps [ib n] w1 w2) :
    Hav (g :: F) bo nm (P ++ [(n, v, i)]) (c + 1) D ib (fun a b => if a = n ∧ b = v then g else rb a b) w2 := by
  obtain ⟨i1, i2, -⟩ := h.inner n hn
  have hmapG : ∀ x, nm x = true → ib x ∉ G := fun x hx hm => by
    obtain ⟨q1, q2⟩ := hG _ hm
    obtain ⟨cs, hcs⟩ := (hC v).cellsAt q1
    obtain ⟨_, _, DX, j3, _⟩ := h.inner x hx
    exact j3.ne_cells hcs q2
  have hboG : bo ∉ G := fun hm => by
    obtain ⟨q1, q2⟩ := hG _ hm
    obtain ⟨cs, hcs⟩ := (hC v).cellsAt q1
    exact h.outer.ne_cells hcs q2
  have hinew : ib n < w.heap.size := hlt _ i1
  have hrow : ∀ x y, idsP P x y ≠ [] → ¬ (x = n ∧ y = v) → rb x y ∉ G ∧ rb x y ≠ ib n ∧ rb x y ≠ g := fun x y hi hne => by
    obtain ⟨cs, hcs⟩ := h.row_lt hi
    refine ⟨fun hm => ?_, fun e => hDI.ne_cells hcs e.symm, fun e => ?_⟩
    · obtain ⟨q1, q2⟩ := hG _ hm
      obtain ⟨e1, e2⟩ := h.apart x y n v hi q1 q2
      exact hne ⟨e1, e2⟩
    · rcases hg with ⟨q1, q2⟩ | q
      · obtain ⟨e1, e2⟩ := h.apart x y n v hi q1 (e.trans q2)
        exact hne ⟨e1, e2⟩
      · have := lt_of_block hcs; omega
  have hids : ∀ x y, ¬ (x = n ∧ y = v) → idsP (P ++ [(n, v, i)]) x y = idsP P x y := fun x y hne => by
    rw [idsP_snoc, if_neg (fun e => hne ⟨e.1.symm, e.2.symm⟩), List.append_nil]
  have hidn : idsP (P ++ [(n, v, i)]) n v = idsP P n v ++ [(i : Int)] := by rw [idsP_snoc, if_pos ⟨rfl, rfl⟩]
  have hgib : g ≠ ib n := by
    obtain ⟨cs, hcs⟩ := hN.cellsAt
    exact fun e => (hDI.keeps hk1 (hmapG n hn)).ne_cells hcs e.symm
  refine ⟨by simp [h.bF], fun x hx => ?_, ((h.outer.keeps hk1 hboG).keeps hk2 (by simp; exact fun e => i2 e.symm)).mono (by omega), h.get, h.one, fun x hx => ?_, fun a b a' b' ha hb e => ?_⟩
  · rw [hasN_snoc] at hx
    simp only [Bool.or_eq_true, decide_eq_true_eq] at hx
    rcases hx with hx | rfl
    · exact h.has x hx
    · exact hn
  · obtain ⟨j1, j2, DX, j3, j4⟩ := h.inner x hx
    by_cases ex : x = n
    · subst ex
      refine ⟨by simp [j1], j2, _, h2, fun y => ?_⟩
      by_cases ey : y = v
      · subst ey
        rw [getS_put hDI.isMap]
        refine .inr ⟨by rw [hidn]; simp, by simp, cap, by rw [hidn]; simp, ?_⟩
        rw [hidn]
        simp only [and_self, if_true]
        have := hN.keeps hk2 (fun k hk => by simp [Value.ownBlock] at hk; subst hk; simpa using hgib)
        simpa using this
      · rw [getS_put_other _ _ ey]
        have hne : ¬ (x = x ∧ y = v) := fun e => ey e.2
        have h5 := hC y
        rcases h5 with ⟨e1, e2⟩ | ⟨e1, e2, cc, e3, e4⟩
        · exact .inl ⟨by rw [hids _ _ hne]; exact e1, e2⟩
        · obtain ⟨r1, r2, r3⟩ := hrow x y e1 hne
          rw [if_neg hne]
          refine .inr ⟨by rw [hids _ _ hne]; exact e1, by simp [e2], cc, by rw [hids _ _ hne]; exact e3, ?_⟩
          rw [hids _ _ hne]
          exact (e4.keeps hk1 (fun k hk => by simp [Value.ownBlock] at hk; subst hk; exact r1)).keeps hk2 (fun k hk => by simp [Value.ownBlock] at hk; subst hk; simpa using r2)
    · have hib : ib x ≠ ib n := fun e => ex (h.one x n hx hn e)
      refine ⟨by simp [j1], j2, DX, ((j3.keeps hk1 (hmapG x hx)).keeps hk2 (by simpa using hib)).mono (by omega), fun y => ?_⟩
      have hne : ¬ (x = n ∧ y = v) := fun e => ex e.1
      rcases j4 y with ⟨e1, e2⟩ | ⟨e1, e2, cc, e3, e4⟩
      · exact .inl ⟨by rw [hids _ _ hne]; exact e1, e2⟩
      · obtain ⟨r1, r2, r3⟩ := hrow x y e1 hne
        rw [if_neg hne]
        refine .inr ⟨by rw [hids _ _ hne]; exact e1, by simp [e2], cc, by rw [hids _ _ hne]; exact e3, ?_⟩
        rw [hids _ _ hne]
        exact (e4.keeps hk1 (fun k hk => by simp [Value.ownBlock] at hk; subst hk; exact r1)).keeps hk2 (fun k hk => by simp [Value.ownBlock] at hk; subst hk; simpa using r2)
  · by_cases h1 : a = n ∧ b = v <;> by_cases h2' : a' = n ∧ b' = v
    · exact ⟨h1.1.trans h2'.1.symm, h1.2.trans h2'.2.symm⟩
    · simp only [if_pos h1, if_neg h2'] at e
      rw [hids _ _ h2'] at hb
      exact absurd e.symm (hrow a' b' hb h2').2.2
    · simp only [if_neg h1, if_pos h2'] at e
      rw [hids _ _ h1] at ha
      exact absurd e (hrow a b ha h1).2.2
    · simp only [if_neg h1, if_neg h2'] at e
      rw [hids _ _ h1] at ha
      rw [hids _ _ h2'] at hb
      exact h.apart a b a' b' ha hb e
end
end Go.Proofs.YtdbifbgjbfnfmaaDoor
/-
  Layer 7 (index): the program's index in memory; New, Len, copied, Labels, Find, all.
-/
namespace Go.Proofs.YtdbifbgjbfnfmaaDoor
open Go.RowKit Go.Deep
attribute [local go_sem] str_size str_append str_toList str_get str_extract
set_option linter.unusedVariables false
set_option linter.unusedSimpArgs false
/-- What the program's calls ask of the variables. -/
structure Env (w : World) : Prop where
  tabs : Lib.Utf8Tabs 1 2 w
  max : ∃ m, w.cell? ⟨0, 0, none⟩ = some (.int .i64 m) ∧ 0 < w.heap.size
theorem Env.below {w w' : World} (h : Env w) (hb : Below w.heap.size w w') : Env w' := by
  obtain ⟨m, h1, h2⟩ := h.max
  exact ⟨Utf8Tabs_below h.tabs hb, m, (hb.cell (p := ⟨0, 0, none⟩) h2).trans h1, Nat.lt_of_lt_of_le h2 hb.size⟩
/-- A slice of labels whose row lies in one of F, and in none of G. -/
def RowV (F G : List Nat) (w : World) (v : Value) (l : List Lab) : Prop := ∃ g c, v = .slice (some ⟨g, 0, none⟩) l.length c ∧ RowL g l w ∧ g ∈ F ∧ g ∉ G
theorem RowL.keeps {G : List Nat} {g : Nat} {l : List Lab} {w w' : World} (h : RowL g l w) (hk : Keeps G w w') (hg : g ∉ G) : RowL g l w' := by
  obtain ⟨cur, h1, h2⟩ := h
  exact ⟨cur, hk.block h1 hg, h2⟩
theorem RowV.keeps {F G K : List Nat} {w w' : World} {v : Value} {l : List Lab} (h : RowV F G w v l) (hk : Keeps K w w') (hd : ∀ k ∈ F, k ∉ K) : RowV F G w' v l := by
  obtain ⟨g, c, h1, h2, h3, h4⟩ := h
  exact ⟨g, c, h1, h2.keeps hk (hd g h3), h3, h4⟩
/-- The program's index q has the series X; its blocks are F. -/
structure IsX (F : List Nat) (q : Nat) (X : Ix) (w : World) : Prop where
  good : Good X
  lt : ∀ k ∈ F, k < w.heap.size
  qF : q ∈ F
  ex : ∃ (FH : List Nat) (bi bo : Nat) (A : Option Addr) (cap : Nat) (vs : List Value) (DI D : DataW Value) (ib : Txt → Nat) (rb : Txt → Txt → Nat),
    w.heap[q]? = some (.cells #[.slice A X.length cap, .map (some bi), .map (some bo)] 69 (0, 0)) ∧ q ∉ FH ∧
    w.ownsRow 0 23 1 (.slice A X.length cap) X.length vs ∧ (∀ k, (Value.slice A X.length cap).ownBlock = some k → k ∈ F ∧ k ∉ FH) ∧ vs.length = X.length ∧
    (∀ (j : Nat) v l, vs[j]? = some v → X[j]? = some l → RowV F FH w v l) ∧
    MapS Tryd.prog 9 w bi X.length DI ∧ bi ∈ F ∧ bi ∉ FH ∧ (∀ l, okL l = true → getS DI (keyL l) = (findX X l).map fun i => .int .i64 (i : Int)) ∧
    (∀ k ∈ FH, k ∈ F) ∧ Hav FH bo (hasN (pstX X)) (pstX X) (2 * (pstX X).length) D ib rb w
theorem IsX.keeps {F G : List Nat} {p : Nat} {X : Ix} {w w' : World} (h : IsX F p X w) (hk : Keeps G w w') (hd : ∀ k ∈ F, k ∉ G) : IsX F p X w' := by
  obtain ⟨FH, bi, bo, A, cap, vs, DI, D, ib, rb, h1, h2, h3, h4, h5, h6, h7, h8, h9, h10, h11, h12⟩ := h.ex
  exact ⟨h.good, fun k hF => Nat.lt_of_lt_of_le (h.lt k hF) hk.size, h.qF, FH, bi, bo, A, cap, vs, DI, D, ib, rb, hk.block h1 (hd p h.qF), h2, hk.row h3 (fun k hk => hd k (h4 k hk).1), h4, h5, fun j v l hv hl => (h6 j v l hv hl).keeps hk hd,
    h7.keeps hk (hd _ h8), h8, h9, h10, h11, h12.keeps hk (fun k hk => hd k (h11 k hk))⟩
theorem IsX.below {F : List Nat} {p : Nat} {X : Ix} {w w' : World} (h : IsX F p X w) (hb : Below w.heap.size w w') : IsX F p X w' := h.keeps (G := []) (Keeps.below hb) (by simp)
/-- Its cells, as others read them. -/
theorem IsX.at {F : List Nat} {q : Nat} {X : Ix} {w : World} (h : IsX F q X w) : ∃ A cap bi bo, w.heap[q]? = some (.cells #[.slice A X.length cap, .map (some bi), .map (some bo)] 69 (0, 0)) ∧ LLAt w A X.length cap X ∧
    (∃ DI, MapS Tryd.prog 9 w bi X.length DI ∧ ∀ l, okL l = true → getS DI (keyL l) = (findX X l).map fun i => .int .i64 (i : Int)) ∧
    ∃ FH D ib rb, Hav FH bo (hasN (pstX X)) (pstX X) (2 * (pstX X).length) D ib rb w := by
  obtain ⟨FH, bi, bo, A, cap, vs, DI, D, ib, rb, h1, h2, h3, h4, h5, h6, h7, h8, h9, h10, h11, h12⟩ := h.ex
  refine ⟨A, cap, bi, bo, h1, ⟨rfl, ?_, fun i hi => ?_⟩, ⟨DI, h7, h10⟩, FH, D, ib, rb, h12⟩
  · rcases h3.2 with ⟨_, h0⟩ | ⟨g, c, cur, e, hg, hb, hc, _⟩
    · omega
    · injection e with e1 e2 e3
      omega
  · rcases h3.2 with ⟨e, h0⟩ | ⟨g, c, cur, e, hg, hb, hc, _⟩
    · omega
    · injection e with e1 e2 e3
      subst e1
      have hv : i < vs.length := by omega
      obtain ⟨gi, ci, ev, hR, _⟩ := h6 i vs[i] X[i] (List.getElem?_eq_getElem hv) (List.getElem?_eq_getElem hi)
      have hcell := h3.cells (g := g) rfl i vs[i] (List.getElem?_eq_getElem hv)
      rw [ev] at hcell
      have hs := labs_small (h.good.ok _ (List.getElem_mem hi))
      refine ⟨_, _, ci, rfl, ?_, hcell, rowL_lat hR hs.2, ?_⟩
      · have : ((⟨g, 0, none⟩ : Addr).add i).block = g := by unfold Addr.add; split <;> rfl
        rw [this]; exact lt_of_block hb
      · have := hs.1; unfold maxLen; omega
theorem sorted_ok {l : List Lab} (h : okL l = true) : sortL l = l := by
  have aux : ∀ (l : List Lab) (a : Txt), okFrom a l = true → (∀ x ∈ l, Lt a x.1) ∧ SortedN l := by
    intro l
    induction l with
    | nil => intro a _; exact ⟨by simp, List.Pairwise.nil⟩
    | cons x r ih =>
      intro a h
      simp only [okFrom, Bool.and_eq_true] at h
      have h1 := ih x.1 h.2.2.2.2
      refine ⟨fun y hy => ?_, List.Pairwise.cons (fun y hy => ?_) h1.2⟩
      · rcases List.mem_cons.1 hy with rfl | hy
        · exact h.2.2.2.1
        · exact bl_trans h.2.2.2.1 (h1.1 y hy)
      · exact ltN_asymm (x := x) (y := y) (h1.1 y hy)
  exact (sortL_eq (aux l [] (okL_from h)).2 (Stb.refl l)).symm
theorem ixNewS_c (w : World) : Calls Tryd.prog 31 #[] w fun e w' => (∃ q F, e = .returned (.pointer (some ⟨q, 0, none⟩)) ∧ IsX F q [] w' ∧ ∀ k ∈ F, w.heap.size ≤ k) ∧ Below w.heap.size w w' := by
  have hmm := @run_makeMap Tryd.prog
  go_enter Tryd.func31, Tryd.ntmps31
  go_wp2_with fail
  go_ret
  have hb1 : Below w.heap.size w (w.alloc (.map #[] 0)) := (Below.refl _ _).alloc (Nat.le_refl _) _
  have hb2 := hb1.alloc (by simp) (.map #[] 0)
  have hb3 := hb2.alloc (by simp; omega) (.cells #[.slice none 0 0, .map (some w.heap.size), .map (some (w.heap.size + 1))] 69)
  have hH := (Hav.start (w.alloc (.map #[] 0))).below (w' := ((w.alloc (.map #[] 0)).alloc (.map #[] 0)).alloc (.cells #[.slice none 0 0, .map (some w.heap.size), .map (some (w.heap.size + 1))] 69)) ((Below.refl _ _).alloc (Nat.le_refl _) _)
  have hM := ((mapS_made Tryd.prog 9 w).below (w' := (w.alloc (.map #[] 0)).alloc (.map #[] 0)) ((Below.refl _ _).alloc (Nat.le_refl _) _)).below (w' := ((w.alloc (.map #[] 0)).alloc (.map #[] 0)).alloc (.cells #[.slice none 0 0, .map (some w.heap.size), .map (some (w.heap.size + 1))] 69)) ((Below.refl _ _).alloc (Nat.le_refl _) _)
  refine ⟨⟨_, [w.heap.size + 2, w.heap.size + 1, w.heap.size], rfl, ⟨Good.nil, ?_, by simp, [w.heap.size + 1], w.heap.size, w.heap.size + 1, none, 0, [], .map [], .map [], (fun _ => 0), (fun _ _ => 0), ?_, by simp, ⟨rfl, .inl ⟨rfl, rfl⟩⟩, fun k hk => by simp [Value.ownBlock] at hk, rfl, fun j v l hv => by simp at hv, hM, by simp, by simp, fun l hl => by rw [getS_empty]; rfl, by simp, ?_⟩, ?_⟩, hb3⟩
  · intro k hk
    simp at hk
    simp
    omega
  · have := blk_new ((w.alloc (.map #[] 0)).alloc (.map #[] 0)) (.cells #[.slice none 0 0, .map (some w.heap.size), .map (some (w.heap.size + 1))] 69)
    simpa using this
  · have e : (fun _ => false) = hasN (pstX []) := by funext x; rfl
    rw [← e]
    refine (show Hav [w.heap.size + 1] (w.heap.size + 1) (fun _ => false) [] 0 (.map []) (fun _ => 0) (fun _ _ => 0) _ from ?_)
    simpa using hH
  · intro k hk
    simp at hk
    omega
theorem ixLenS_c (F : List Nat) (q : Nat) (X : Ix) (w : World) (h : IsX F q X w) : Calls Tryd.prog 19 #[.pointer (some ⟨q, 0, none⟩)] w fun e w' => e = .returned (.int .i64 X.length) ∧ w = w' := by
  obtain ⟨A, cap, bi, bo, h1, h2⟩ := h.at
  have hc := blk_cell h1 0
  simp only [List.getElem?_toArray, List.getElem?_cons_zero] at hc
  clear h2
  go_enter Tryd.func19, Tryd.ntmps19
  go_wp2_with fail
  go_ret
  exact ⟨rfl, rfl⟩
theorem copied_c (A : Option Addr) (len cap : Nat) (l : List Lab) (w : World) (ho : okL l = true) (hA : LAt w A len l) :
    Calls Tryd.prog 33 #[.slice A len cap] w fun e w' => (∃ g c', e = .returned (.slice (some ⟨g, 0, none⟩) l.length c') ∧ w.heap.size ≤ g ∧ RowL g l w') ∧ Below w.heap.size w w' := by
  have h8 := okL_len ho
  have h32 := okL_32 ho
  have cs := sortRow_c A len cap l w (by omega) hA (fun x hx => by have := h32 x hx; omega)
  rw [sorted_ok ho] at cs
  have CS := Lib.hid cs
  clear cs
  go_enter Tryd.func33, Tryd.ntmps33
  go_wp2_with (first | (go_at_call 56; refine CS.out.mono ?_; rintro e w1 ⟨⟨g, c, rfl, hg, hR⟩, hb⟩; have HR := Lib.hid hR; clear hR; dsimp only))
  go_ret
  exact ⟨⟨g, c, rfl, hg, HR.out⟩, hb⟩
set_option maxHeartbeats 1000000 in
theorem ixLabels_c (F : List Nat) (q : Nat) (X : Ix) (id : Int) (w : World) (h : IsX F q X w) (h1 : -9223372036854775808 ≤ id) (h2 : id ≤ 9223372036854775807) :
    Calls Tryd.prog 14 #[.pointer (some ⟨q, 0, none⟩), .int .i64 id] w fun e w' => GivesL (labelsX X id) e w' ∧ Below w.heap.size w w' := by
  have cl := Lib.hid (ixLenS_c F q X w h)
  obtain ⟨A, cap, bi, bo, k1, k2, _⟩ := h.at
  have hc := blk_cell k1 0
  simp only [List.getElem?_toArray, List.getElem?_cons_zero] at hc
  have hX := h.good.few
  have hok := h.good.ok
  by_cases hid : id < 0
  · have e : labelsX X id = [] := labelsX_out (.inl hid)
    rw [e]
    have t1 : decide (id < 0) = true := by simpa using hid
    clear k1 k2 h
    go_enter Tryd.func14, Tryd.ntmps14
    go_wp2_with fail
    go_ret
    exact ⟨⟨none, 0, rfl, LAt.nil _ _⟩, Below.refl _ _⟩
  · have t1 : decide (id < 0) = false := by simpa using hid
    by_cases hid2 : (X.length : Int) ≤ id
    · have e : labelsX X id = [] := labelsX_out (.inr hid2)
      rw [e]
      have t2 : decide ((X.length : Int) ≤ id) = true := by simpa using hid2
      clear k1 k2 h
      go_enter Tryd.func14, Tryd.ntmps14
      go_wp2_with (first | (go_at_call 19; refine cl.out.mono ?_; rintro e w1 ⟨rfl, rfl⟩; dsimp only))
      go_ret
      exact ⟨⟨none, 0, rfl, LAt.nil _ _⟩, Below.refl _ _⟩
    · obtain ⟨i, rfl⟩ : ∃ i : Nat, id = i := ⟨id.toNat, by omega⟩
      have hi : i < X.length := by omega
      rw [labelsX_in hi]
      have t2 : decide ((X.length : Int) ≤ i) = false := by simpa using hid2
      obtain ⟨ad, Ai, ci, rfl, q2, q3, q4, q5⟩ := k2.2.2 i hi
      have ho := hok _ (List.getElem_mem hi)
      have cc := Lib.hid (fun W hb => copied_c Ai X[i].length ci X[i] W ho (q4.below (w' := W) hb))
      clear k1 k2 h q4 hok
      go_enter Tryd.func14, Tryd.ntmps14
      go_wp2_with (first
        | (go_at_call 19; refine cl.out.mono ?_; rintro e w1 ⟨rfl, rfl⟩; dsimp only)
        | (go_at_call 33; refine (cc.out _ (Below.refl _ _)).mono ?_; rintro e w1 ⟨⟨g, c, rfl, hg, hR⟩, hb⟩; have HR := Lib.hid hR; clear hR; dsimp only))
      go_ret
      exact ⟨⟨_, c, rfl, rowL_lat HR.out (labs_small ho).2⟩, hb⟩
set_option maxRecDepth 100000 in
set_option maxHeartbeats 1000000 in
theorem ixFind_c (F : List Nat) (q : Nat) (X : Ix) (A : Option Addr) (len cap : Nat) (l : List Lab) (w : World) (h : IsX F q X w) (hA : LAt w A len l) (hl : l.length ≤ 5000) (hz : ∀ x ∈ l, x.1.length ≤ 4096 ∧ x.2.length ≤ 4096) (hE : Env w) :
    Calls Tryd.prog 16 #[.pointer (some ⟨q, 0, none⟩), .slice A len cap] w fun e w' => e = .returned (.tuple #[.int .i64 (idF X l), .bool (isF X l)]) ∧ Below w.heap.size w w' := by
  have hle := hA.1
  subst hle
  have ck := key_c A l.length cap l w (by omega) hA hz hE.tabs
  cases ho : okL l with
  | false =>
    rw [ho, if_neg (by simp), show eOf false = 40 from rfl] at ck
    have hn : l ∉ X := fun hm => by rw [h.good.ok l hm] at ho; cases ho
    have e1 : idF X l = -1 := by unfold idF; rw [findX_none.2 hn]
    have e2 : isF X l = false := by unfold isF; exact decide_eq_false hn
    rw [e1, e2]
    have CK := Lib.hid ck
    clear ck hn e1 e2 h hA ho
    go_enter Tryd.func16, Tryd.ntmps16
    go_wp2_with (first | (go_at_call 34; refine CK.out.mono ?_; rintro e w1 ⟨rfl, hb1⟩; dsimp only))
    go_ret2
    exact ⟨rfl, hb1⟩
  | true =>
    rw [ho, if_pos rfl, show eOf true = 0 from rfl] at ck
    have hk := keyL_len (okL_32 ho)
    have h8 := okL_len ho
    obtain ⟨B, c, bi, bo, h1, h2, ⟨DI, hM, hG⟩, _⟩ := h.at
    have hg := hG l ho
    obtain ⟨K, hK⟩ : ∃ K, keyL l = K := ⟨_, rfl⟩
    rw [hK] at ck hk hg
    have hlk := fun (W : World) (hW : Below w.heap.size w W) => MapS.look (e := 3) (z := .int .i64 0) true (hM.below hW) Tryd.underlying9 Tryd.underlying66 (by kernel_rfl) K (by unfold maxLen; omega)
    have HL := Lib.hid hlk
    have hc := blk_cell h1 1
    simp only [List.getElem?_toArray, List.getElem?_cons_succ, List.getElem?_cons_zero] at hc
    have HC := Lib.hid (fun (W : World) (hW : Below w.heap.size w W) => (hW.cell (p := ⟨q, 1, none⟩) (lt_of_block h1)).trans hc)
    have CK := Lib.hid ck
    have hin : ∀ i, findX X l = some i → l ∈ X := fun i hi => by obtain ⟨a, b, _⟩ := findX_some.1 hi; exact b ▸ List.getElem_mem a
    cases hf : findX X l with
    | none =>
      have hn := findX_none.1 hf
      have e1 : idF X l = -1 := by unfold idF; rw [hf]
      have e2 : isF X l = false := by unfold isF; exact decide_eq_false hn
      rw [e1, e2]
      rw [hf] at hg
      have HG := Lib.hid hg
      clear ck hk hg hn e1 e2 h hA ho hM hG h1 h2 hlk hc hf hin
      go_enter Tryd.func16, Tryd.ntmps16
      go_wp2_with fail
      go_at_call 34
      refine CK.out.mono ?_
      rintro e w1 ⟨rfl, hb1⟩
      have hl1 := HL.out _ hb1
      have hc1 := HC.out _ hb1
      rw [HG.out] at hl1
      simp only [Option.map_none, Option.getD_none, Option.isSome_none] at hl1
      go_wp2_with fail
      go_ret2
      exact ⟨rfl, hb1⟩
    | some i =>
      have e1 : idF X l = i := by unfold idF; rw [hf]
      have e2 : isF X l = true := by unfold isF; exact decide_eq_true (hin i hf)
      rw [e1, e2]
      rw [hf] at hg
      have HG := Lib.hid hg
      clear ck hk hg e1 e2 h hA ho hM hG h1 h2 hlk hc hf hin
      go_enter Tryd.func16, Tryd.ntmps16
      go_wp2_with fail
      go_at_call 34
      refine CK.out.mono ?_
      rintro e w1 ⟨rfl, hb1⟩
      have hl1 := HL.out _ hb1
      have hc1 := HC.out _ hb1
      rw [HG.out] at hl1
      simp only [Option.map_some, Option.getD_some, Option.isSome_some] at hl1
      go_wp2_with fail
      go_ret2
      exact ⟨rfl, hb1⟩
/-- All ids. -/
def allI (n : Nat) : List Int := (List.range n).map Int.ofNat
theorem allI_succ (n : Nat) : allI (n + 1) = allI n ++ [(n : Int)] := by unfold allI; rw [List.range_succ, List.map_append]; rfl
theorem allI_len (n : Nat) : (allI n).length = n := by simp [allI]
theorem mem_allI {n : Nat} {x : Int} : x ∈ allI n ↔ ∃ i : Nat, i < n ∧ x = i := by
  unfold allI
  simp only [List.mem_map, List.mem_range]
  constructor
  · rintro ⟨i, h, rfl⟩; exact ⟨i, h, rfl⟩
  · rintro ⟨i, h, rfl⟩; exact ⟨i, h, rfl⟩
theorem allI_up (n : Nat) : Up (allI n) := by
  induction n with
  | zero => simp [allI]
  | succ n ih => rw [allI_succ]; exact up_snoc ih fun y hy => by obtain ⟨i, h1, rfl⟩ := mem_allI.1 hy; omega
set_option maxRecDepth 100000 in
set_option maxHeartbeats 1000000 in
theorem ixAll_c (F : List Nat) (q : Nat) (X : Ix) (w : World) (h : IsX F q X w) :
    Calls Tryd.prog 37 #[.pointer (some ⟨q, 0, none⟩)] w fun e w' => (∃ A1 c1, e = .returned (.slice A1 X.length c1) ∧ NewI 0 (.slice A1 X.length c1) (allI X.length) w') ∧ Below w.heap.size w w' := by
  obtain ⟨B, c, bi, bo, h1, h2, _⟩ := h.at
  have hc := blk_cell h1 0
  simp only [List.getElem?_toArray, List.getElem?_cons_zero] at hc
  have hX := h.good.few
  clear h1 h2 h
  obtain ⟨n, hn⟩ : ∃ n, X.length = n := ⟨_, rfl⟩
  rw [hn] at hc hX ⊢
  clear hn
  go_enter Tryd.func37, Tryd.ntmps37
  go_wp2_with fail
  go_loopw [3, 10] (fun v c wr => ∃ (i : Nat) (out : List Int) (A1 : Option Addr) (cap1 : Nat), i ≤ n ∧ c = .int .i64 i ∧ v = .slice A1 out.length cap1 ∧ NewI w.heap.size (.slice A1 out.length cap1) out wr ∧ Hid (out = allI i ∧ out.length = i) ∧ Below w.heap.size w wr) (fun _ c _ => n - (intOf c).toNat)
  case atStart => exact ⟨0, [], _, _, Nat.zero_le _, rfl, rfl, NewI.nil _ _, ⟨rfl, rfl⟩, Below.refl _ _⟩
  case round =>
    obtain ⟨i, out, A1, cap1, hi, rfl, rfl, hN, HO, hb⟩ := hrel
    have hbs := hb.size
    by_cases hlt : i < n
    · have hst := allI_succ i
      rw [← HO.out.1] at hst
      have HST := Lib.hid hst
      have HN := Lib.hid hN
      clear hst hN
      go_wp2_with (at_builtin; refine app_one rfl (.tmp 13) (.tmp 15) rfl rfl HN.out i rfl rfl (by omega) (by omega) (by have := HO.out.2; omega) hbs ?_; intro A cap w' L HL hN2 hb2)
      have HN2 := Lib.hid hN2
      clear hN2
      have hb3 := hb.trans hb2
      go_wp2_with fail
      go_roundw
      case rel => exact ⟨i + 1, L, A, cap, by omega, by go_num, rfl, HN2.out, ⟨HL.out.trans HST.out.symm, by rw [HL.out, List.length_append, HO.out.2]; rfl⟩, hb3⟩
      case measure => simp [intOf]; omega
    · obtain rfl : i = n := by omega
      have HN := Lib.hid (hN.mono (Nat.zero_le _))
      clear hN
      go_wp2_with fail
      go_ret
      refine ⟨⟨A1, cap1, ?_, ?_⟩, hb⟩
      · rw [HO.out.2]; rfl
      · have := HN.out
        rw [HO.out.2] at this
        rwa [HO.out.1] at this
end Go.Proofs.YtdbifbgjbfnfmaaDoor
/-
  Layer 7 (index): enter, the program's: a new series stands behind those that have its values.
-/
namespace Go.Proofs.YtdbifbgjbfnfmaaDoor
open Go.RowKit Go.Deep
attribute [local go_sem] str_size str_append str_toList str_get str_extract
set_option linter.unusedVariables false
set_option linter.unusedSimpArgs false
theorem Hav.congr {F : List Nat} {bo : Nat} {nm nm' : Txt → Bool} {P : Pst} {c : Nat} {D : DataW Value} {ib : Txt → Nat} {rb : Txt → Txt → Nat} {w : World} (h : Hav F bo nm P c D ib rb w) (he : ∀ x, nm x = nm' x) : Hav F bo nm' P c D ib rb w := by
  have : nm = nm' := funext he
  subst this
  exact h
theorem Hav.mono {F : List Nat} {bo : Nat} {nm : Txt → Bool} {P : Pst} {c c' : Nat} {D : DataW Value} {ib : Txt → Nat} {rb : Txt → Txt → Nat} {w : World} (h : Hav F bo nm P c D ib rb w) (hc : c ≤ c') : Hav F bo nm P c' D ib rb w :=
  ⟨h.bF, h.has, h.outer.mono hc, h.get, h.one, fun n hn => by
    obtain ⟨h1, h2, DI, h3, h4⟩ := h.inner n hn
    exact ⟨h1, h2, DI, h3.mono hc, h4⟩, h.apart⟩
/-- What stands behind k labels of the new series. -/
def Entered (FH : List Nat) (bo : Nat) (P : Pst) (c : Nat) (w w' : World) : Prop := ∃ FH' D ib rb, Hav FH' bo (hasN P) P c D ib rb w' ∧ Keeps FH w w' ∧ (∀ k ∈ FH', k ∈ FH ∨ w.heap.size ≤ k) ∧ ∀ k ∈ FH', k < w'.heap.size
/-- What the inner map has at v, as a row. -/
theorem Cel.row {F : List Nat} {w : World} {P : Pst} {n v : Txt} {r : Nat} {o : Option Value} (h : Cel F w P n v r o) :
    ∃ A c, o.getD (.slice none 0 0) = .slice A (idsP P n v).length c ∧ NewI 0 (.slice A (idsP P n v).length c) (idsP P n v) w ∧ ∀ k, (Value.slice A (idsP P n v).length c).ownBlock = some k → idsP P n v ≠ [] ∧ k = r := by
  rcases h with ⟨h1, rfl⟩ | ⟨h1, h2, c, rfl, h4⟩
  · rw [h1]; exact ⟨none, 0, rfl, NewI.nil _ _, fun k hk => by simp [Value.ownBlock] at hk⟩
  · exact ⟨_, c, rfl, h4, fun k hk => by simp [Value.ownBlock] at hk; exact ⟨h1, hk.symm⟩⟩
theorem RowL.at2 {g : Nat} {l : List Lab} {w : World} (h : RowL g l w) (i : Nat) (hi : i < l.length) : g < w.heap.size ∧ w.cell? ⟨g, i * 2, none⟩ = some (.string (str l[i].1)) ∧ w.cell? ⟨g, i * 2 + 1, none⟩ = some (.string (str l[i].2)) := by
  obtain ⟨cur, h1, h2, h3⟩ := h
  have := h3 i hi
  rw [Nat.mul_comm] at this
  exact ⟨lt_of_block h1, (blk_cell h1 _).trans this.1, (blk_cell h1 _).trans this.2⟩
theorem Entered.mono {FH : List Nat} {bo : Nat} {P : Pst} {c c' : Nat} {w w' : World} (h : Entered FH bo P c w w') (hc : c ≤ c') : Entered FH bo P c' w w' := by
  obtain ⟨a, b, d, e, h1, h2⟩ := h
  exact ⟨a, b, d, e, h1.mono hc, h2⟩
set_option maxRecDepth 100000 in
set_option maxHeartbeats 1000000 in
theorem enter_c (q id bo bi : Nat) (A : Option Addr) (n cap gl ci : Nat) (l : List Lab) (FH : List Nat) (P : Pst) (c : Nat) (w : World)
    (hq : w.heap[q]? = some (.cells #[.slice A n cap, .map (some bi), .map (some bo)] 69 (0, 0))) (hqF : q ∉ FH)
    (hcell : ∃ ad, A = some ad ∧ (ad.add id).block < w.heap.size ∧ (ad.add id).block ∉ FH ∧ w.cell? (ad.add id) = some (.slice (some ⟨gl, 0, none⟩) l.length ci)) (hrow : RowL gl l w) (hgl : gl ∉ FH)
    (hH : Entered FH bo P c w w) (hok : okL l = true) (hid : id < n) (hid2 : id ≤ 200) (hc : c ≤ 4000) (hPs : P.length ≤ 1600) :
    Calls Tryd.prog 35 #[.pointer (some ⟨q, 0, none⟩), .int .i64 id] w fun e w' => e = .returned (.tuple #[]) ∧ Entered FH bo (P ++ pst1 id l) (c + 2 * l.length) w w' := by
  obtain ⟨ad, rfl, ha1, ha2, ha3⟩ := hcell
  have h8 := okL_len hok
  have h32 := okL_32 hok
  have hqc := blk_cell hq 0
  have hmm := @run_makeMap Tryd.prog
  simp only [List.getElem?_toArray, List.getElem?_cons_zero] at hqc
  have hnil := fun (m : Option Nat) (W : World) => run_eql_map_nil (P := Tryd.prog) W 98 _ _ m Tryd.underlying98
  obtain ⟨i0, hi0, hz0, hz1, hz2⟩ := info_parts int_info
  -- what stays
  have hst : ∀ W, Keeps FH w W → W.cell? ⟨q, 2, none⟩ = some (.map (some bo)) ∧ RowL gl l W := fun W hK => ⟨by have := blk_cell (hK.block hq hqF) 2; simpa using this, hrow.keeps hK hgl⟩
  have HS := Lib.hid hst
  have H32 := Lib.hid h32
  clear hst hq hrow h32
  go_enter Tryd.func35, Tryd.ntmps35
  go_wp2_with fail
  go_loopw [15] (fun cc wr => ∃ k : Nat, k ≤ l.length ∧ cc = .int .i64 k ∧ Hid (Entered FH bo (P ++ pst1 id (l.take k)) (c + 2 * k) w wr)) (fun cc _ => l.length - (intOf cc).toNat)
  case atStart => exact ⟨0, Nat.zero_le _, rfl, by simpa [pst1] using Lib.hid hH⟩
  case round =>
    obtain ⟨k, hk, rfl, HE⟩ := hrel
    by_cases hlt : k < l.length
    · obtain ⟨FH', D, ib, rb, hH, hK, hF, hFl⟩ := HE.out
      obtain ⟨x, hx⟩ : ∃ x, l[k]'hlt = x := ⟨_, rfl⟩
      have hst : P ++ pst1 id (l.take (k + 1)) = P ++ pst1 id (l.take k) ++ [((l[k]'hlt).1, (l[k]'hlt).2, id)] := by rw [pst1_take id l k hlt, List.append_assoc]
      rw [hx] at hst
      have hx32 := H32.out _ (List.getElem_mem hlt)
      rw [hx] at hx32
      obtain ⟨s2, s3⟩ := HS.out _ hK
      obtain ⟨h2, h3, h4⟩ := s3.at2 k hlt
      rw [hx] at h3 h4
      obtain ⟨n1, v1⟩ := x
      simp only at h3 h4 hst hx32
      have hn0 := hH.get n1
      have hO := hH.outer
      obtain ⟨P', hP'⟩ : ∃ x, P ++ pst1 id (l.take k) = x := ⟨_, rfl⟩
      obtain ⟨c1, hc1⟩ : ∃ x, c + 2 * k = x := ⟨_, rfl⟩
      rw [hP'] at hst hH hn0
      rw [hc1] at hH hO
      have HST := Lib.hid hst
      have HH := Lib.hid hH
      have hPl : P'.length ≤ 2000 := by rw [← hP']; simp [pst1]; omega
      clear hst hH s3 HE hx hP'
      have hba : Below wr.heap.size wr (wr.alloc (.cells #[.string (str n1), .string (str v1)] 60)) := (Below.refl _ _).alloc (Nat.le_refl _) _
      have hq0 := blk_new wr (.cells #[.string (str n1), .string (str v1)] 60)
      have hsa : wr.heap.size < (wr.alloc (.cells #[.string (str n1), .string (str v1)] 60)).heap.size := by simp
      have hmm2 := hmm
      clear hmm
      by_cases hn : hasN P' n1 = true
      · rw [if_pos hn] at hn0
        go_wp2_with fail
        obtain ⟨Wb, hWb⟩ : ∃ W, wr.alloc (.cells #[.string (str n1), .string (str v1)] 60) = W := ⟨_, rfl⟩
        obtain ⟨b5, hb5⟩ : ∃ b, wr.heap.size = b := ⟨_, rfl⟩
        rw [hWb] at hba hsa hq0 ⊢
        rw [hb5] at hsa hq0 hba ⊢
        obtain ⟨bm, hbm⟩ : ∃ b, ib n1 = b := ⟨_, rfl⟩
        rw [hbm] at hn0
        have hba' : Below wr.heap.size wr Wb := by rw [hb5]; exact hba
        have hHb := HH.out.below hba'
        have hKb : Keeps FH w Wb := hK.trans (Keeps.below hba') (G := []) (by simp)
        have hlk := MapS.look (w := Wb.drew) (e := 98) (z := .map none) false hHb.outer Tryd.underlying9 Tryd.underlying67 (by kernel_rfl) n1 (by unfold maxLen; omega)
        rw [hn0] at hlk
        simp only [Bool.false_eq_true, if_false, Option.getD_some] at hlk
        have hB : ∀ W, Keeps FH' Wb W → W.cell? ⟨b5, 0, none⟩ = some (.string (str n1)) ∧ W.cell? ⟨b5, 1, none⟩ = some (.string (str v1)) := fun W hW => by
          have := hW.block hq0 (fun hm => by have := hFl _ hm; omega)
          exact ⟨by simpa using blk_cell this 0, by simpa using blk_cell this 1⟩
        have HB := Lib.hid hB
        have S0 := And.intro (HS.out _ hKb.drew).1 (And.intro (hB _ (Keeps.refl FH' Wb).drew).1 hlk)
        refine wp_region_held_drew (S := fun W => W.cell? ⟨q, 2, none⟩ = some (.map (some bo)) ∧ W.cell? ⟨b5, 0, none⟩ = some (.string (str n1)) ∧ (Instr.lookup 67 (.map (some bo)) (.string (str n1)) false).run Tryd.prog W = .ok (.map (some bm)) W) (by kernel_rfl) S0 (fun hHeld => ?_)
        clear S0 hlk hB hHb
        refine held_w (i := 0) (d := some 19) (v := ?_) rfl (by kernel_rfl) (by kernel_rfl) (by kernel_rfl) (fun _ _ _ h => h) (by rfl) ?_ hHeld ?_
        rotate_left
        · intro w' hSw; obtain ⟨q0, q1, q2⟩ := hSw; simp only [List.getElem?_toArray, List.getElem?_cons_zero, List.getElem?_cons_succ]; go_simp; try with_reducible rfl
        try simp only [Act.put, List.setIfInBounds_toArray, List.set_cons_zero, List.set_cons_succ]
        refine held_w (i := 1) (d := some 20) (v := ?_) rfl (by kernel_rfl) (by kernel_rfl) (by kernel_rfl) (fun _ _ _ h => h) (by rfl) ?_ hHeld ?_
        rotate_left
        · intro w' hSw; obtain ⟨q0, q1, q2⟩ := hSw; simp only [List.getElem?_toArray, List.getElem?_cons_zero, List.getElem?_cons_succ]; go_simp; try with_reducible rfl
        try simp only [Act.put, List.setIfInBounds_toArray, List.set_cons_zero, List.set_cons_succ]
        refine held_w (i := 2) (d := some 21) (v := ?_) rfl (by kernel_rfl) (by kernel_rfl) (by kernel_rfl) (fun _ _ _ h => h) (by rfl) ?_ hHeld ?_
        rotate_left
        · intro w' hSw; obtain ⟨q0, q1, q2⟩ := hSw; simp only [List.getElem?_toArray, List.getElem?_cons_zero, List.getElem?_cons_succ]; go_simp; try with_reducible rfl
        try simp only [Act.put, List.setIfInBounds_toArray, List.set_cons_zero, List.set_cons_succ]
        refine held_w (i := 3) (d := some 22) (v := ?_) rfl (by kernel_rfl) (by kernel_rfl) (by kernel_rfl) (fun _ _ _ h => h) (by rfl) ?_ hHeld ?_
        rotate_left
        · intro w' hSw; obtain ⟨q0, q1, q2⟩ := hSw; simp only [List.getElem?_toArray, List.getElem?_cons_zero, List.getElem?_cons_succ]; go_simp; try with_reducible rfl
        try simp only [Act.put, List.setIfInBounds_toArray, List.set_cons_zero, List.set_cons_succ]
        refine held_w (i := 4) (d := some 23) (v := ?_) rfl (by kernel_rfl) (by kernel_rfl) (by kernel_rfl) (fun _ _ _ h => h) (by rfl) ?_ hHeld ?_
        rotate_left
        · intro w' hSw; obtain ⟨q0, q1, q2⟩ := hSw; simp only [List.getElem?_toArray, List.getElem?_cons_zero, List.getElem?_cons_succ]; go_simp; try with_reducible rfl
        try simp only [Act.put, List.setIfInBounds_toArray, List.set_cons_zero, List.set_cons_succ]
        refine held_w (i := 5) (d := some 24) (v := ?_) rfl (by kernel_rfl) (by kernel_rfl) (by kernel_rfl) (fun _ _ _ h => h) (by rfl) ?_ hHeld ?_
        rotate_left
        · intro w' hSw; obtain ⟨q0, q1, q2⟩ := hSw; simp only [List.getElem?_toArray, List.getElem?_cons_zero, List.getElem?_cons_succ]; go_simp; try with_reducible rfl
        try simp only [Act.put, List.setIfInBounds_toArray, List.set_cons_zero, List.set_cons_succ]
        refine held_w (i := 6) (d := some 25) (v := ?_) rfl (by kernel_rfl) (by kernel_rfl) (by kernel_rfl) (fun _ _ _ h => h) (by rfl) ?_ hHeld ?_
        rotate_left
        · intro w' hSw; obtain ⟨q0, q1, q2⟩ := hSw; simp only [List.getElem?_toArray, List.getElem?_cons_zero, List.getElem?_cons_succ]; go_simp; try with_reducible rfl
        try simp only [Act.put, List.setIfInBounds_toArray, List.set_cons_zero, List.set_cons_succ]
        refine held_w (i := 7) (d := some 6) (v := ?_) rfl (by kernel_rfl) (by kernel_rfl) (by kernel_rfl) (fun _ _ _ h => h) (by rfl) ?_ hHeld ?_
        rotate_left
        · intro w' hSw; obtain ⟨q0, q1, q2⟩ := hSw; simp only [List.getElem?_toArray, List.getElem?_cons_zero, List.getElem?_cons_succ]; go_simp; try with_reducible rfl
        try simp only [Act.put, List.setIfInBounds_toArray, List.set_cons_zero, List.set_cons_succ]
        refine wpAnyH_done (by kernel_rfl) ?_ _
        skip
        go_wp2_with fail
        obtain ⟨Wc, hWc⟩ : ∃ W, Wb.drew = W := ⟨_, rfl⟩
        obtain ⟨nm2, D2, ib2, FH2, c2, hnm2⟩ : ∃ (nm : Txt → Bool) (D2 : DataW Value) (ib2 : Txt → Nat) (FH2 : List Nat) (c2 : Nat), (nm = hasN P' ∧ D2 = D ∧ ib2 = ib ∧ FH2 = FH' ∧ c2 = c1) := ⟨_, _, _, _, _, rfl, rfl, rfl, rfl, rfl⟩
        have HH2 : Hid (Hav FH2 bo nm2 P' c2 D2 ib2 rb Wc) := by
          obtain ⟨rfl, rfl, rfl, rfl, rfl⟩ := hnm2
          rw [← hWc]; exact HH.out.below hba'.drew
        have hn2 : nm2 n1 = true := by rw [hnm2.1]; exact hn
        have hbm2 : ib2 n1 = bm := by rw [hnm2.2.2.1]; exact hbm
        have hKbc : Keeps FH' Wb Wc := by rw [← hWc]; exact (Keeps.refl _ _).drew
        have hc2 : c2 ≤ c1 + 1 := by rw [hnm2.2.2.2.2]; omega
        have hF2 : ∀ k ∈ FH2, k ∈ FH' ∨ Wb.heap.size ≤ k := fun k hk => by rw [hnm2.2.2.2.1] at hk; exact .inl hk
        have hFl2 : ∀ k ∈ FH2, k < Wc.heap.size := fun k hk => by rw [hnm2.2.2.2.1] at hk; rw [← hWc]; have := hFl k hk; simp; omega
        have hnmP : ∀ x, nm2 x = true → x ≠ n1 → hasN P' x = true := fun x hx _ => by rw [hnm2.1] at hx; exact hx
        rw [hWc]
        clear hWc hnm2
        have hcn : c + 2 * (k + 1) = c1 + 2 := by omega
        have hsWc : w.heap.size ≤ Wc.heap.size := Nat.le_trans hK.size (Nat.le_trans hba'.size hKbc.size)
        have hFA : ∀ x ∈ FH2, x ∈ FH ∨ w.heap.size ≤ x := fun x hx => by
          rcases hF2 x hx with h | h
          · exact hF x h
          · have := hKb.size; right; omega
        obtain ⟨i1, i2, DI, i3, i4⟩ := HH2.out.inner n1 hn2
        rw [hbm2] at i1 i2 i3
        obtain ⟨A0, c0, e0, hN0, hr0⟩ := (i4 v1).row
        obtain ⟨ids, hids⟩ : ∃ x, idsP P' n1 v1 = x := ⟨_, rfl⟩
        rw [hids] at e0 hN0 hr0
        have hidl : ids.length ≤ 2000 := by rw [← hids]; exact Nat.le_trans (idsP_len _ _ _) hPl
        have hinF : ∀ k, (Value.slice A0 ids.length c0).ownBlock = some k → k ∈ FH2 ∧ k ≠ bm := fun k hk => by
          obtain ⟨q1, q2⟩ := hr0 k hk
          obtain ⟨cs, hcs⟩ := (i4 v1).cellsAt (by rw [hids]; exact q1)
          rw [← q2] at hcs
          exact ⟨q2 ▸ (i4 v1).inF (by rw [hids]; exact q1), fun e => i3.ne_cells hcs e.symm⟩
        have HID := Lib.hid hids
        have HI := Lib.hid (And.intro i3 (And.intro i4 (And.intro hN0 (And.intro hr0 hinF))))
        have HE0 := Lib.hid e0
        have S1 := And.intro (HB.out _ hKbc.drew).2 True.intro
        refine wp_region_held_drew (S := fun W => W.cell? ⟨b5, 1, none⟩ = some (.string (str v1)) ∧ True) (by kernel_rfl) S1 (fun hHeld => ?_)
        clear S1 i3 i4 hN0 hr0 e0 hids hinF
        refine held_w (i := 0) (d := some 36) (v := ?_) rfl (by kernel_rfl) (by kernel_rfl) (by kernel_rfl) (fun _ _ _ h => h) (by rfl) ?_ hHeld ?_
        rotate_left
        · intro w' hSw; obtain ⟨q0, q1⟩ := hSw; simp only [List.getElem?_toArray, List.getElem?_cons_zero, List.getElem?_cons_succ]; go_simp; try with_reducible rfl
        try simp only [Act.put, List.setIfInBounds_toArray, List.set_cons_zero, List.set_cons_succ]
        refine held_w (i := 1) (d := some 37) (v := ?_) rfl (by kernel_rfl) (by kernel_rfl) (by kernel_rfl) (fun _ _ _ h => h) (by rfl) ?_ hHeld ?_
        rotate_left
        · intro w' hSw; obtain ⟨q0, q1⟩ := hSw; simp only [List.getElem?_toArray, List.getElem?_cons_zero, List.getElem?_cons_succ]; go_simp; try with_reducible rfl
        try simp only [Act.put, List.setIfInBounds_toArray, List.set_cons_zero, List.set_cons_succ]
        refine held_w (i := 2) (d := some 38) (v := ?_) rfl (by kernel_rfl) (by kernel_rfl) (by kernel_rfl) (fun _ _ _ h => h) (by rfl) ?_ hHeld ?_
        rotate_left
        · intro w' hSw; obtain ⟨q0, q1⟩ := hSw; simp only [List.getElem?_toArray, List.getElem?_cons_zero, List.getElem?_cons_succ]; go_simp; try with_reducible rfl
        try simp only [Act.put, List.setIfInBounds_toArray, List.set_cons_zero, List.set_cons_succ]
        refine held_w (i := 3) (d := some 39) (v := ?_) rfl (by kernel_rfl) (by kernel_rfl) (by kernel_rfl) (fun _ _ _ h => h) (by rfl) ?_ hHeld ?_
        rotate_left
        · intro w' hSw; obtain ⟨q0, q1⟩ := hSw; simp only [List.getElem?_toArray, List.getElem?_cons_zero, List.getElem?_cons_succ]; go_simp; try with_reducible rfl
        try simp only [Act.put, List.setIfInBounds_toArray, List.set_cons_zero, List.set_cons_succ]
        refine held_w (i := 4) (d := some 40) (v := ?_) rfl (by kernel_rfl) (by kernel_rfl) (by kernel_rfl) (fun _ _ _ h => h) (by rfl) ?_ hHeld ?_
        rotate_left
        · intro w' hSw; obtain ⟨q0, q1⟩ := hSw; simp only [List.getElem?_toArray, List.getElem?_cons_zero, List.getElem?_cons_succ]; go_simp; try with_reducible rfl
        try simp only [Act.put, List.setIfInBounds_toArray, List.set_cons_zero, List.set_cons_succ]
        refine held_w (i := 5) (d := some 41) (v := ?_) rfl (by kernel_rfl) (by kernel_rfl) (by kernel_rfl) (fun _ _ _ h => h) (by rfl) ?_ hHeld ?_
        rotate_left
        · intro w' hSw; obtain ⟨q0, q1⟩ := hSw; simp only [List.getElem?_toArray, List.getElem?_cons_zero, List.getElem?_cons_succ]; go_simp; try with_reducible rfl
        try simp only [Act.put, List.setIfInBounds_toArray, List.set_cons_zero, List.set_cons_succ]
        refine held_w (i := 7) (d := some 43) (v := ?_) rfl (by kernel_rfl) (by kernel_rfl) (by kernel_rfl) (fun _ _ _ h => h) (by rfl) ?_ hHeld ?_
        rotate_left
        · intro w' hSw; obtain ⟨q0, q1⟩ := hSw; simp only [List.getElem?_toArray, List.getElem?_cons_zero, List.getElem?_cons_succ]; go_simp; try with_reducible rfl
        try simp only [Act.put, List.setIfInBounds_toArray, List.set_cons_zero, List.set_cons_succ]
        refine held_many (rs := [6, 8]) (by kernel_rfl) (by simp) ⟨?_, ?_, trivial⟩
        · refine ⟨by rfl, fun K hK => ?_⟩
          simp only [List.getElem?_toArray, List.getElem?_cons_zero, List.getElem?_cons_succ]
          have hKx : Keeps [] Wc Wc.drew := (Keeps.refl [] Wc).drew
          refine wp_look _ (.tmp 39) (.tmp 41) 98 false rfl 9 40 Tryd.underlying9 Tryd.underlying98 (.slice none 0 0) (by kernel_rfl) bm c2 DI rfl (HI.out.1.keeps hKx (by simp)) v1 rfl (by unfold maxLen; omega) ?_
          simp only [Bool.false_eq_true, if_false, HE0.out]
          refine hK.out _ _ ⟨(HB.out _ (hKbc.trans hKx (by simp))).2, trivial⟩ (fun hHeld => ?_)
          clear hK K hKx
          try simp only [Act.put, List.setIfInBounds_toArray, List.set_cons_zero, List.set_cons_succ]
          refine held_c (i := 8) (by kernel_rfl) (by rfl) (fun K hK => ?_)
          simp only [List.getElem?_toArray, List.getElem?_cons_zero, List.getElem?_cons_succ]
          go_simp
          have hK1 : Keeps [] Wc (Wc.drew.alloc (.cells #[.int .i64 id] 3)) := (Keeps.refl [] Wc).drew.alloc _
          refine hK.out _ _ ⟨(HB.out _ (hKbc.trans hK1 (by simp))).2, trivial⟩ (fun hHeld => ?_)
          clear hK K
          try simp only [Act.put, List.setIfInBounds_toArray, List.set_cons_zero, List.set_cons_succ]
          refine held_c (i := 9) (by kernel_rfl) (by rfl) (fun K hK => ?_)
          simp only [List.getElem?_toArray, List.getElem?_cons_zero, List.getElem?_cons_succ]
          refine wp_append_lies _ (.tmp 42) (.tmp 44) 40 rfl 0 3 i0 (.int .i64 0) 1 8 Tryd.underlying40 hi0 hz0 hz1 hz2 rfl (by decide) (.slice A0 ids.length c0) ids.length (intC ids) rfl ((HI.out.2.2.1.own).drew.alloc _) ⟨Wc.drew.heap.size, 0, none⟩ 1 1 [.int .i64 id] rfl rfl (cell_one_new _ _ _) (by intro u hu; simp at hu; subst hu; rfl) (by decide) (by unfold maxLen; omega) (by omega) (Nat.zero_le _) _ rfl ?_
          intro g1 cap1 w4 hown1 hg1 hl0 hl1
          have hK4 : Keeps (Value.slice A0 ids.length c0).ownBlock.toList Wc w4 := (hK1.more (by simp)).grown hg1 (fun k hk => by left; simp [hk])
          have hl2 : (Value.slice A0 ids.length c0).ownBlock = some g1 ∨ Wc.heap.size ≤ g1 := hl0.imp (fun e => e) (fun e => by rw [e]; simp)
          have hN4 : NewI 0 (.slice (some ⟨g1, 0, none⟩) (ids.length + 1) cap1) (ids ++ [(id : Int)]) w4 := ⟨by rw [intC_append, show (ids ++ [(id : Int)]).length = ids.length + 1 by simp]; exact hown1, fun y hy => by
            rcases List.mem_append.1 hy with hy | hy
            · exact HI.out.2.2.1.rng y hy
            · simp at hy; subst hy; omega⟩
          have hKb4 : Keeps FH' Wb w4 := hKbc.trans hK4 (fun g hg => by simp at hg; exact hF2 g (HI.out.2.2.2.2 g hg).1)
          refine hK.out _ _ ⟨(HB.out _ hKb4).2, trivial⟩ (fun hHeld => ?_)
          have HN4 := Lib.hid (And.intro hN4 (And.intro hl2 hK4))
          clear hK K hown1 hg1 hl0 hl1 hN4 hl2
          try simp only [Act.put, List.setIfInBounds_toArray, List.set_cons_zero, List.set_cons_succ]
          refine held_c (i := 10) (by kernel_rfl) (by rfl) (fun K hK => ?_)
          simp only [List.getElem?_toArray, List.getElem?_cons_zero, List.getElem?_cons_succ]
          refine wp_store _ (.tmp 36) (.tmp 38) (.tmp 45) 98 rfl 9 40 Tryd.underlying9 Tryd.underlying98 bm c2 DI rfl (HI.out.1.keeps hK4 (fun hm => by simp at hm; exact (HI.out.2.2.2.2 _ hm).2 rfl)) (by unfold maxLen; omega) v1 (.slice (some ⟨g1, 0, none⟩) (ids.length + 1) cap1) rfl rfl (by unfold maxLen; omega) ?_
          intro w5 hM5 hg5
          have hK5 : Keeps [bm] w4 w5 := (Keeps.refl _ _).grown hg5 (fun k hk => by left; simp at hk; simp [hk])
          have hKb5 : Keeps FH' Wb w5 := hKb4.trans hK5 (fun g hg => by simp at hg; subst hg; exact hF2 _ i1)
          have hent : Entered FH bo (P' ++ [(n1, v1, id)]) (c2 + 1) w w5 := by
            have hnew := Hav.newId HH2.out hFl2 hn2 (i := id) (by rw [hbm2]; exact HI.out.1) HI.out.2.1 (g := g1) (cap := cap1) (w1 := w4) (w2 := w5) (G := (Value.slice A0 ids.length c0).ownBlock.toList) HN4.out.2.2
              (fun k hk => by simp at hk; rw [HID.out]; exact HI.out.2.2.2.1 k hk)
              (HN4.out.2.1.imp (fun h => by rw [HID.out]; exact HI.out.2.2.2.1 _ h) (fun h => h))
              (by rw [HID.out]; exact HN4.out.1) (by rw [hbm2, HID.out]; exact hM5) (by rw [hbm2]; exact hK5)
            refine ⟨_, _, _, _, Hav.congr hnew (fun x => ?_), hKb.trans hKb5 (fun g hg => hF g hg), fun x hx => ?_, fun x hx => ?_⟩
            · rw [hasN_snoc]
              by_cases e : x = n1
              · subst e; simp [hn2]
              · rw [Bool.eq_iff_iff]
                simp only [Bool.or_eq_true, decide_eq_true_eq]
                exact ⟨fun h => .inl (hnmP x h e), fun h => h.elim (HH2.out.has x) (fun h => absurd h.symm e)⟩
            · rcases List.mem_cons.1 hx with rfl | hx
              · rcases HN4.out.2.1 with h | h
                · exact hFA _ (HI.out.2.2.2.2 _ h).1
                · right; omega
              · exact hFA _ hx
            · have e5 := hK5.size
              have e4 := hK4.size
              rcases List.mem_cons.1 hx with rfl | hx
              · obtain ⟨cs, hcs⟩ := HN4.out.1.cellsAt
                have := lt_of_block hcs; omega
              · have := hFl2 x hx; omega
          refine hK.out _ _ ⟨(HB.out _ hKb5).2, trivial⟩ (fun hHeld => ?_)
          have HEnt := Lib.hid hent
          clear hK K hM5 hg5 hent hK5 hKb5 hKb4 hK4
          try simp only [Act.put, List.setIfInBounds_toArray, List.set_cons_zero, List.set_cons_succ]
          refine wpAnyH_done (by kernel_rfl) ?_ _
          go_wp2_with fail
          go_roundw
          case rel => exact ⟨k + 1, by omega, by go_num, by rw [HST.out, hcn]; exact HEnt.out.mono (by omega)⟩
          case measure => simp [intOf]; omega
        · refine ⟨by rfl, fun K hK => ?_⟩
          simp only [List.getElem?_toArray, List.getElem?_cons_zero, List.getElem?_cons_succ]
          go_simp
          have hK1 : Keeps [] Wc (Wc.drew.alloc (.cells #[.int .i64 id] 3)) := (Keeps.refl [] Wc).drew.alloc _
          refine hK.out _ _ ⟨(HB.out _ (hKbc.trans hK1 (by simp))).2, trivial⟩ (fun hHeld => ?_)
          clear hK K
          try simp only [Act.put, List.setIfInBounds_toArray, List.set_cons_zero, List.set_cons_succ]
          refine held_c (i := 6) (by kernel_rfl) (by rfl) (fun K hK => ?_)
          simp only [List.getElem?_toArray, List.getElem?_cons_zero, List.getElem?_cons_succ]
          have hKx : Keeps [] Wc (Wc.drew.alloc (.cells #[.int .i64 id] 3)) := (Keeps.refl [] Wc).drew.alloc _
          refine wp_look _ (.tmp 39) (.tmp 41) 98 false rfl 9 40 Tryd.underlying9 Tryd.underlying98 (.slice none 0 0) (by kernel_rfl) bm c2 DI rfl (HI.out.1.keeps hKx (by simp)) v1 rfl (by unfold maxLen; omega) ?_
          simp only [Bool.false_eq_true, if_false, HE0.out]
          refine hK.out _ _ ⟨(HB.out _ (hKbc.trans hKx (by simp))).2, trivial⟩ (fun hHeld => ?_)
          clear hK K hKx
          try simp only [Act.put, List.setIfInBounds_toArray, List.set_cons_zero, List.set_cons_succ]
          refine held_c (i := 9) (by kernel_rfl) (by rfl) (fun K hK => ?_)
          simp only [List.getElem?_toArray, List.getElem?_cons_zero, List.getElem?_cons_succ]
          refine wp_append_lies _ (.tmp 42) (.tmp 44) 40 rfl 0 3 i0 (.int .i64 0) 1 8 Tryd.underlying40 hi0 hz0 hz1 hz2 rfl (by decide) (.slice A0 ids.length c0) ids.length (intC ids) rfl ((HI.out.2.2.1.own).drew.alloc _) ⟨Wc.drew.heap.size, 0, none⟩ 1 1 [.int .i64 id] rfl rfl (cell_one_new _ _ _) (by intro u hu; simp at hu; subst hu; rfl) (by decide) (by unfold maxLen; omega) (by omega) (Nat.zero_le _) _ rfl ?_
          intro g1 cap1 w4 hown1 hg1 hl0 hl1
          have hK4 : Keeps (Value.slice A0 ids.length c0).ownBlock.toList Wc w4 := (hK1.more (by simp)).grown hg1 (fun k hk => by left; simp [hk])
          have hl2 : (Value.slice A0 ids.length c0).ownBlock = some g1 ∨ Wc.heap.size ≤ g1 := hl0.imp (fun e => e) (fun e => by rw [e]; simp)
          have hN4 : NewI 0 (.slice (some ⟨g1, 0, none⟩) (ids.length + 1) cap1) (ids ++ [(id : Int)]) w4 := ⟨by rw [intC_append, show (ids ++ [(id : Int)]).length = ids.length + 1 by simp]; exact hown1, fun y hy => by
            rcases List.mem_append.1 hy with hy | hy
            · exact HI.out.2.2.1.rng y hy
            · simp at hy; subst hy; omega⟩
          have hKb4 : Keeps FH' Wb w4 := hKbc.trans hK4 (fun g hg => by simp at hg; exact hF2 g (HI.out.2.2.2.2 g hg).1)
          refine hK.out _ _ ⟨(HB.out _ hKb4).2, trivial⟩ (fun hHeld => ?_)
          have HN4 := Lib.hid (And.intro hN4 (And.intro hl2 hK4))
          clear hK K hown1 hg1 hl0 hl1 hN4 hl2
          try simp only [Act.put, List.setIfInBounds_toArray, List.set_cons_zero, List.set_cons_succ]
          refine held_c (i := 10) (by kernel_rfl) (by rfl) (fun K hK => ?_)
          simp only [List.getElem?_toArray, List.getElem?_cons_zero, List.getElem?_cons_succ]
          refine wp_store _ (.tmp 36) (.tmp 38) (.tmp 45) 98 rfl 9 40 Tryd.underlying9 Tryd.underlying98 bm c2 DI rfl (HI.out.1.keeps hK4 (fun hm => by simp at hm; exact (HI.out.2.2.2.2 _ hm).2 rfl)) (by unfold maxLen; omega) v1 (.slice (some ⟨g1, 0, none⟩) (ids.length + 1) cap1) rfl rfl (by unfold maxLen; omega) ?_
          intro w5 hM5 hg5
          have hK5 : Keeps [bm] w4 w5 := (Keeps.refl _ _).grown hg5 (fun k hk => by left; simp at hk; simp [hk])
          have hKb5 : Keeps FH' Wb w5 := hKb4.trans hK5 (fun g hg => by simp at hg; subst hg; exact hF2 _ i1)
          have hent : Entered FH bo (P' ++ [(n1, v1, id)]) (c2 + 1) w w5 := by
            have hnew := Hav.newId HH2.out hFl2 hn2 (i := id) (by rw [hbm2]; exact HI.out.1) HI.out.2.1 (g := g1) (cap := cap1) (w1 := w4) (w2 := w5) (G := (Value.slice A0 ids.length c0).ownBlock.toList) HN4.out.2.2
              (fun k hk => by simp at hk; rw [HID.out]; exact HI.out.2.2.2.1 k hk)
              (HN4.out.2.1.imp (fun h => by rw [HID.out]; exact HI.out.2.2.2.1 _ h) (fun h => h))
              (by rw [HID.out]; exact HN4.out.1) (by rw [hbm2, HID.out]; exact hM5) (by rw [hbm2]; exact hK5)
            refine ⟨_, _, _, _, Hav.congr hnew (fun x => ?_), hKb.trans hKb5 (fun g hg => hF g hg), fun x hx => ?_, fun x hx => ?_⟩
            · rw [hasN_snoc]
              by_cases e : x = n1
              · subst e; simp [hn2]
              · rw [Bool.eq_iff_iff]
                simp only [Bool.or_eq_true, decide_eq_true_eq]
                exact ⟨fun h => .inl (hnmP x h e), fun h => h.elim (HH2.out.has x) (fun h => absurd h.symm e)⟩
            · rcases List.mem_cons.1 hx with rfl | hx
              · rcases HN4.out.2.1 with h | h
                · exact hFA _ (HI.out.2.2.2.2 _ h).1
                · right; omega
              · exact hFA _ hx
            · have e5 := hK5.size
              have e4 := hK4.size
              rcases List.mem_cons.1 hx with rfl | hx
              · obtain ⟨cs, hcs⟩ := HN4.out.1.cellsAt
                have := lt_of_block hcs; omega
              · have := hFl2 x hx; omega
          refine hK.out _ _ ⟨(HB.out _ hKb5).2, trivial⟩ (fun hHeld => ?_)
          have HEnt := Lib.hid hent
          clear hK K hM5 hg5 hent hK5 hKb5 hKb4 hK4
          try simp only [Act.put, List.setIfInBounds_toArray, List.set_cons_zero, List.set_cons_succ]
          refine wpAnyH_done (by kernel_rfl) ?_ _
          go_wp2_with fail
          go_roundw
          case rel => exact ⟨k + 1, by omega, by go_num, by rw [HST.out, hcn]; exact HEnt.out.mono (by omega)⟩
          case measure => simp [intOf]; omega
      · rw [if_neg hn] at hn0
        go_wp2_with fail
        obtain ⟨Wb, hWb⟩ : ∃ W, wr.alloc (.cells #[.string (str n1), .string (str v1)] 60) = W := ⟨_, rfl⟩
        obtain ⟨b5, hb5⟩ : ∃ b, wr.heap.size = b := ⟨_, rfl⟩
        rw [hWb] at hba hsa hq0 ⊢
        rw [hb5] at hsa hq0 hba ⊢
        have hba' : Below wr.heap.size wr Wb := by rw [hb5]; exact hba
        have hHb := HH.out.below hba'
        have hKb : Keeps FH w Wb := hK.trans (Keeps.below hba') (G := []) (by simp)
        have hlk := MapS.look (w := Wb.drew) (e := 98) (z := .map none) false hHb.outer Tryd.underlying9 Tryd.underlying67 (by kernel_rfl) n1 (by unfold maxLen; omega)
        rw [hn0] at hlk
        simp only [Bool.false_eq_true, if_false, Option.getD_none] at hlk
        have hB : ∀ W, Keeps FH' Wb W → W.cell? ⟨b5, 0, none⟩ = some (.string (str n1)) ∧ W.cell? ⟨b5, 1, none⟩ = some (.string (str v1)) := fun W hW => by
          have := hW.block hq0 (fun hm => by have := hFl _ hm; omega)
          exact ⟨by simpa using blk_cell this 0, by simpa using blk_cell this 1⟩
        have HB := Lib.hid hB
        have S0 := And.intro (HS.out _ hKb.drew).1 (And.intro (hB _ (Keeps.refl FH' Wb).drew).1 hlk)
        refine wp_region_held_drew (S := fun W => W.cell? ⟨q, 2, none⟩ = some (.map (some bo)) ∧ W.cell? ⟨b5, 0, none⟩ = some (.string (str n1)) ∧ (Instr.lookup 67 (.map (some bo)) (.string (str n1)) false).run Tryd.prog W = .ok (.map none) W) (by kernel_rfl) S0 (fun hHeld => ?_)
        clear S0 hlk hB hHb
        refine held_w (i := 0) (d := some 19) (v := ?_) rfl (by kernel_rfl) (by kernel_rfl) (by kernel_rfl) (fun _ _ _ h => h) (by rfl) ?_ hHeld ?_
        rotate_left
        · intro w' hSw; obtain ⟨q0, q1, q2⟩ := hSw; simp only [List.getElem?_toArray, List.getElem?_cons_zero, List.getElem?_cons_succ]; go_simp; try with_reducible rfl
        try simp only [Act.put, List.setIfInBounds_toArray, List.set_cons_zero, List.set_cons_succ]
        refine held_w (i := 1) (d := some 20) (v := ?_) rfl (by kernel_rfl) (by kernel_rfl) (by kernel_rfl) (fun _ _ _ h => h) (by rfl) ?_ hHeld ?_
        rotate_left
        · intro w' hSw; obtain ⟨q0, q1, q2⟩ := hSw; simp only [List.getElem?_toArray, List.getElem?_cons_zero, List.getElem?_cons_succ]; go_simp; try with_reducible rfl
        try simp only [Act.put, List.setIfInBounds_toArray, List.set_cons_zero, List.set_cons_succ]
        refine held_w (i := 2) (d := some 21) (v := ?_) rfl (by kernel_rfl) (by kernel_rfl) (by kernel_rfl) (fun _ _ _ h => h) (by rfl) ?_ hHeld ?_
        rotate_left
        · intro w' hSw; obtain ⟨q0, q1, q2⟩ := hSw; simp only [List.getElem?_toArray, List.getElem?_cons_zero, List.getElem?_cons_succ]; go_simp; try with_reducible rfl
        try simp only [Act.put, List.setIfInBounds_toArray, List.set_cons_zero, List.set_cons_succ]
        refine held_w (i := 3) (d := some 22) (v := ?_) rfl (by kernel_rfl) (by kernel_rfl) (by kernel_rfl) (fun _ _ _ h => h) (by rfl) ?_ hHeld ?_
        rotate_left
        · intro w' hSw; obtain ⟨q0, q1, q2⟩ := hSw; simp only [List.getElem?_toArray, List.getElem?_cons_zero, List.getElem?_cons_succ]; go_simp; try with_reducible rfl
        try simp only [Act.put, List.setIfInBounds_toArray, List.set_cons_zero, List.set_cons_succ]
        refine held_w (i := 4) (d := some 23) (v := ?_) rfl (by kernel_rfl) (by kernel_rfl) (by kernel_rfl) (fun _ _ _ h => h) (by rfl) ?_ hHeld ?_
        rotate_left
        · intro w' hSw; obtain ⟨q0, q1, q2⟩ := hSw; simp only [List.getElem?_toArray, List.getElem?_cons_zero, List.getElem?_cons_succ]; go_simp; try with_reducible rfl
        try simp only [Act.put, List.setIfInBounds_toArray, List.set_cons_zero, List.set_cons_succ]
        refine held_w (i := 5) (d := some 24) (v := ?_) rfl (by kernel_rfl) (by kernel_rfl) (by kernel_rfl) (fun _ _ _ h => h) (by rfl) ?_ hHeld ?_
        rotate_left
        · intro w' hSw; obtain ⟨q0, q1, q2⟩ := hSw; simp only [List.getElem?_toArray, List.getElem?_cons_zero, List.getElem?_cons_succ]; go_simp; try with_reducible rfl
        try simp only [Act.put, List.setIfInBounds_toArray, List.set_cons_zero, List.set_cons_succ]
        refine held_w (i := 6) (d := some 25) (v := ?_) rfl (by kernel_rfl) (by kernel_rfl) (by kernel_rfl) (fun _ _ _ h => h) (by rfl) ?_ hHeld ?_
        rotate_left
        · intro w' hSw; obtain ⟨q0, q1, q2⟩ := hSw; simp only [List.getElem?_toArray, List.getElem?_cons_zero, List.getElem?_cons_succ]; go_simp; try with_reducible rfl
        try simp only [Act.put, List.setIfInBounds_toArray, List.set_cons_zero, List.set_cons_succ]
        refine held_w (i := 7) (d := some 6) (v := ?_) rfl (by kernel_rfl) (by kernel_rfl) (by kernel_rfl) (fun _ _ _ h => h) (by rfl) ?_ hHeld ?_
        rotate_left
        · intro w' hSw; obtain ⟨q0, q1, q2⟩ := hSw; simp only [List.getElem?_toArray, List.getElem?_cons_zero, List.getElem?_cons_succ]; go_simp; try with_reducible rfl
        try simp only [Act.put, List.setIfInBounds_toArray, List.set_cons_zero, List.set_cons_succ]
        refine wpAnyH_done (by kernel_rfl) ?_ _
        skip
        go_wp2_with fail
        have hmmb := hmm2 98 Wb.drew
        go_wp2_with fail
        clear hmmb
        obtain ⟨W1, hW1⟩ : ∃ W, (Wb.alloc (.map #[] 0)).drew = W := ⟨_, rfl⟩
        obtain ⟨bm, hbm⟩ : ∃ b, Wb.heap.size = b := ⟨_, rfl⟩
        rw [hW1, hbm]
        have hsb : Wb.heap.size = bm := hbm
        have hK1b : Keeps [] Wb W1 := by rw [← hW1]; exact ((Keeps.refl [] Wb).alloc _).drew
        have hM1 : MapS Tryd.prog 9 W1 bm 0 (.map []) := by
          have := mapS_made Tryd.prog 9 Wb
          rw [hbm] at this; rw [← hW1]; exact this
        have hbl : ∀ k ∈ FH', k < bm := fun k hk => by have := hFl k hk; omega
        have HHb := Lib.hid (HH.out.below hba')
        have hKb1 : Keeps FH' Wb W1 := hK1b.more (by simp)
        have S2 := And.intro (HS.out _ (hKb.trans hKb1.drew (fun g hg => hF g hg))).1 (And.intro (HB.out _ hKb1.drew).1 True.intro)
        clear hW1
        refine wp_region_held_drew (S := fun W => W.cell? ⟨q, 2, none⟩ = some (.map (some bo)) ∧ W.cell? ⟨b5, 0, none⟩ = some (.string (str n1)) ∧ True) (by kernel_rfl) S2 (fun hHeld => ?_)
        clear S2
        refine held_w (i := 0) (d := some 29) (v := ?_) rfl (by kernel_rfl) (by kernel_rfl) (by kernel_rfl) (fun _ _ _ h => h) (by rfl) ?_ hHeld ?_
        rotate_left
        · intro w' hSw; obtain ⟨q0, q1, q2⟩ := hSw; simp only [List.getElem?_toArray, List.getElem?_cons_zero, List.getElem?_cons_succ]; go_simp; try with_reducible rfl
        try simp only [Act.put, List.setIfInBounds_toArray, List.set_cons_zero, List.set_cons_succ]
        refine held_w (i := 1) (d := some 30) (v := ?_) rfl (by kernel_rfl) (by kernel_rfl) (by kernel_rfl) (fun _ _ _ h => h) (by rfl) ?_ hHeld ?_
        rotate_left
        · intro w' hSw; obtain ⟨q0, q1, q2⟩ := hSw; simp only [List.getElem?_toArray, List.getElem?_cons_zero, List.getElem?_cons_succ]; go_simp; try with_reducible rfl
        try simp only [Act.put, List.setIfInBounds_toArray, List.set_cons_zero, List.set_cons_succ]
        refine held_w (i := 2) (d := some 31) (v := ?_) rfl (by kernel_rfl) (by kernel_rfl) (by kernel_rfl) (fun _ _ _ h => h) (by rfl) ?_ hHeld ?_
        rotate_left
        · intro w' hSw; obtain ⟨q0, q1, q2⟩ := hSw; simp only [List.getElem?_toArray, List.getElem?_cons_zero, List.getElem?_cons_succ]; go_simp; try with_reducible rfl
        try simp only [Act.put, List.setIfInBounds_toArray, List.set_cons_zero, List.set_cons_succ]
        refine held_w (i := 3) (d := some 32) (v := ?_) rfl (by kernel_rfl) (by kernel_rfl) (by kernel_rfl) (fun _ _ _ h => h) (by rfl) ?_ hHeld ?_
        rotate_left
        · intro w' hSw; obtain ⟨q0, q1, q2⟩ := hSw; simp only [List.getElem?_toArray, List.getElem?_cons_zero, List.getElem?_cons_succ]; go_simp; try with_reducible rfl
        try simp only [Act.put, List.setIfInBounds_toArray, List.set_cons_zero, List.set_cons_succ]
        refine held_w (i := 4) (d := some 33) (v := ?_) rfl (by kernel_rfl) (by kernel_rfl) (by kernel_rfl) (fun _ _ _ h => h) (by rfl) ?_ hHeld ?_
        rotate_left
        · intro w' hSw; obtain ⟨q0, q1, q2⟩ := hSw; simp only [List.getElem?_toArray, List.getElem?_cons_zero, List.getElem?_cons_succ]; go_simp; try with_reducible rfl
        try simp only [Act.put, List.setIfInBounds_toArray, List.set_cons_zero, List.set_cons_succ]
        refine held_w (i := 5) (d := some 34) (v := ?_) rfl (by kernel_rfl) (by kernel_rfl) (by kernel_rfl) (fun _ _ _ h => h) (by rfl) ?_ hHeld ?_
        rotate_left
        · intro w' hSw; obtain ⟨q0, q1, q2⟩ := hSw; simp only [List.getElem?_toArray, List.getElem?_cons_zero, List.getElem?_cons_succ]; go_simp; try with_reducible rfl
        try simp only [Act.put, List.setIfInBounds_toArray, List.set_cons_zero, List.set_cons_succ]
        refine held_w (i := 6) (d := some 35) (v := ?_) rfl (by kernel_rfl) (by kernel_rfl) (by kernel_rfl) (fun _ _ _ h => h) (by rfl) ?_ hHeld ?_
        rotate_left
        · intro w' hSw; obtain ⟨q0, q1, q2⟩ := hSw; simp only [List.getElem?_toArray, List.getElem?_cons_zero, List.getElem?_cons_succ]; go_simp; try with_reducible rfl
        try simp only [Act.put, List.setIfInBounds_toArray, List.set_cons_zero, List.set_cons_succ]
        refine held_c (i := 7) (by kernel_rfl) (by rfl) (fun K hK => ?_)
        simp only [List.getElem?_toArray, List.getElem?_cons_zero, List.getElem?_cons_succ]
        refine wp_store _ (.tmp 32) (.tmp 34) (.tmp 35) 67 rfl 9 98 Tryd.underlying9 Tryd.underlying67 bo c1 D rfl (HHb.out.outer.keeps hK1b.drew (by simp)) (by unfold maxLen; omega) n1 (.map (some bm)) rfl rfl (by unfold maxLen; omega) ?_
        intro w6 hM6 hg6
        have hK6 : Keeps [bo] W1 w6 := (Keeps.refl [bo] W1).drew.grown hg6 (fun k hk => by left; simp at hk; simp [hk])
        have hKb6 : Keeps FH' Wb w6 := hKb1.trans hK6 (fun g hg => by simp at hg; subst hg; exact .inl HH.out.bF)
        have hH6 := Hav.newName HHb.out (fun k hk => by have := hFl k hk; have := hba'.size; omega) (by simpa using hn) hK1b (by omega) hM1 hM6 hK6
        refine hK.out _ _ ⟨(HS.out _ (hKb.trans hKb6 (fun g hg => hF g hg))).1, (HB.out _ hKb6).1, trivial⟩ (fun hHeld => ?_)
        have HH6 := Lib.hid hH6
        clear hK K hM6 hg6 hH6
        try simp only [Act.put, List.setIfInBounds_toArray, List.set_cons_zero, List.set_cons_succ]
        refine wpAnyH_done (by kernel_rfl) ?_ _
        skip
        go_wp2_with fail
        obtain ⟨Wc, hWc⟩ : ∃ W, w6 = W := ⟨_, rfl⟩
        obtain ⟨nm2, D2, ib2, FH2, c2, hnm2⟩ : ∃ (nm : Txt → Bool) (D2 : DataW Value) (ib2 : Txt → Nat) (FH2 : List Nat) (c2 : Nat), (nm = (fun x => hasN P' x || decide (x = n1)) ∧ D2 = (D.put (.string n1) (.held (.map (some bm)))) ∧ ib2 = (fun x => if x = n1 then bm else ib x) ∧ FH2 = bm :: FH' ∧ c2 = c1 + 1) := ⟨_, _, _, _, _, rfl, rfl, rfl, rfl, rfl⟩
        have HH2 : Hid (Hav FH2 bo nm2 P' c2 D2 ib2 rb Wc) := by
          obtain ⟨rfl, rfl, rfl, rfl, rfl⟩ := hnm2
          rw [← hWc]; exact HH6.out
        have hn2 : nm2 n1 = true := by rw [hnm2.1]; simp
        have hbm2 : ib2 n1 = bm := by rw [hnm2.2.2.1]; simp
        have hKbc : Keeps FH' Wb Wc := by rw [← hWc]; exact hKb6
        have hc2 : c2 ≤ c1 + 1 := by rw [hnm2.2.2.2.2]; omega
        have hF2 : ∀ k ∈ FH2, k ∈ FH' ∨ Wb.heap.size ≤ k := fun k hk => by
          rw [hnm2.2.2.2.1] at hk
          rcases List.mem_cons.1 hk with rfl | hk
          · right; omega
          · exact .inl hk
        have hFl2 : ∀ k ∈ FH2, k < Wc.heap.size := fun k hk => by
          rw [hnm2.2.2.2.1] at hk
          have e1 := hKbc.size
          have e2 := hM1.lt
          have e3 := hK6.size
          rw [hWc] at e3
          rcases List.mem_cons.1 hk with rfl | hk
          · omega
          · have := hFl k hk; omega
        have hnmP : ∀ x, nm2 x = true → x ≠ n1 → hasN P' x = true := fun x hx hne => by rw [hnm2.1] at hx; simpa [hne] using hx
        rw [hWc]
        clear HH6 HHb hM1 hK1b hKb1 hK6 hKb6 hWc hnm2
        have hcn : c + 2 * (k + 1) = c1 + 2 := by omega
        have hsWc : w.heap.size ≤ Wc.heap.size := Nat.le_trans hK.size (Nat.le_trans hba'.size hKbc.size)
        have hFA : ∀ x ∈ FH2, x ∈ FH ∨ w.heap.size ≤ x := fun x hx => by
          rcases hF2 x hx with h | h
          · exact hF x h
          · have := hKb.size; right; omega
        obtain ⟨i1, i2, DI, i3, i4⟩ := HH2.out.inner n1 hn2
        rw [hbm2] at i1 i2 i3
        obtain ⟨A0, c0, e0, hN0, hr0⟩ := (i4 v1).row
        obtain ⟨ids, hids⟩ : ∃ x, idsP P' n1 v1 = x := ⟨_, rfl⟩
        rw [hids] at e0 hN0 hr0
        have hidl : ids.length ≤ 2000 := by rw [← hids]; exact Nat.le_trans (idsP_len _ _ _) hPl
        have hinF : ∀ k, (Value.slice A0 ids.length c0).ownBlock = some k → k ∈ FH2 ∧ k ≠ bm := fun k hk => by
          obtain ⟨q1, q2⟩ := hr0 k hk
          obtain ⟨cs, hcs⟩ := (i4 v1).cellsAt (by rw [hids]; exact q1)
          rw [← q2] at hcs
          exact ⟨q2 ▸ (i4 v1).inF (by rw [hids]; exact q1), fun e => i3.ne_cells hcs e.symm⟩
        have HID := Lib.hid hids
        have HI := Lib.hid (And.intro i3 (And.intro i4 (And.intro hN0 (And.intro hr0 hinF))))
        have HE0 := Lib.hid e0
        have S1 := And.intro (HB.out _ hKbc.drew).2 True.intro
        refine wp_region_held_drew (S := fun W => W.cell? ⟨b5, 1, none⟩ = some (.string (str v1)) ∧ True) (by kernel_rfl) S1 (fun hHeld => ?_)
        clear S1 i3 i4 hN0 hr0 e0 hids hinF
        refine held_w (i := 0) (d := some 36) (v := ?_) rfl (by kernel_rfl) (by kernel_rfl) (by kernel_rfl) (fun _ _ _ h => h) (by rfl) ?_ hHeld ?_
        rotate_left
        · intro w' hSw; obtain ⟨q0, q1⟩ := hSw; simp only [List.getElem?_toArray, List.getElem?_cons_zero, List.getElem?_cons_succ]; go_simp; try with_reducible rfl
        try simp only [Act.put, List.setIfInBounds_toArray, List.set_cons_zero, List.set_cons_succ]
        refine held_w (i := 1) (d := some 37) (v := ?_) rfl (by kernel_rfl) (by kernel_rfl) (by kernel_rfl) (fun _ _ _ h => h) (by rfl) ?_ hHeld ?_
        rotate_left
        · intro w' hSw; obtain ⟨q0, q1⟩ := hSw; simp only [List.getElem?_toArray, List.getElem?_cons_zero, List.getElem?_cons_succ]; go_simp; try with_reducible rfl
        try simp only [Act.put, List.setIfInBounds_toArray, List.set_cons_zero, List.set_cons_succ]
        refine held_w (i := 2) (d := some 38) (v := ?_) rfl (by kernel_rfl) (by kernel_rfl) (by kernel_rfl) (fun _ _ _ h => h) (by rfl) ?_ hHeld ?_
        rotate_left
        · intro w' hSw; obtain ⟨q0, q1⟩ := hSw; simp only [List.getElem?_toArray, List.getElem?_cons_zero, List.getElem?_cons_succ]; go_simp; try with_reducible rfl
        try simp only [Act.put, List.setIfInBounds_toArray, List.set_cons_zero, List.set_cons_succ]
        refine held_w (i := 3) (d := some 39) (v := ?_) rfl (by kernel_rfl) (by kernel_rfl) (by kernel_rfl) (fun _ _ _ h => h) (by rfl) ?_ hHeld ?_
        rotate_left
        · intro w' hSw; obtain ⟨q0, q1⟩ := hSw; simp only [List.getElem?_toArray, List.getElem?_cons_zero, List.getElem?_cons_succ]; go_simp; try with_reducible rfl
        try simp only [Act.put, List.setIfInBounds_toArray, List.set_cons_zero, List.set_cons_succ]
        refine held_w (i := 4) (d := some 40) (v := ?_) rfl (by kernel_rfl) (by kernel_rfl) (by kernel_rfl) (fun _ _ _ h => h) (by rfl) ?_ hHeld ?_
        rotate_left
        · intro w' hSw; obtain ⟨q0, q1⟩ := hSw; simp only [List.getElem?_toArray, List.getElem?_cons_zero, List.getElem?_cons_succ]; go_simp; try with_reducible rfl
        try simp only [Act.put, List.setIfInBounds_toArray, List.set_cons_zero, List.set_cons_succ]
        refine held_w (i := 5) (d := some 41) (v := ?_) rfl (by kernel_rfl) (by kernel_rfl) (by kernel_rfl) (fun _ _ _ h => h) (by rfl) ?_ hHeld ?_
        rotate_left
        · intro w' hSw; obtain ⟨q0, q1⟩ := hSw; simp only [List.getElem?_toArray, List.getElem?_cons_zero, List.getElem?_cons_succ]; go_simp; try with_reducible rfl
        try simp only [Act.put, List.setIfInBounds_toArray, List.set_cons_zero, List.set_cons_succ]
        refine held_w (i := 7) (d := some 43) (v := ?_) rfl (by kernel_rfl) (by kernel_rfl) (by kernel_rfl) (fun _ _ _ h => h) (by rfl) ?_ hHeld ?_
        rotate_left
        · intro w' hSw; obtain ⟨q0, q1⟩ := hSw; simp only [List.getElem?_toArray, List.getElem?_cons_zero, List.getElem?_cons_succ]; go_simp; try with_reducible rfl
        try simp only [Act.put, List.setIfInBounds_toArray, List.set_cons_zero, List.set_cons_succ]
        refine held_many (rs := [6, 8]) (by kernel_rfl) (by simp) ⟨?_, ?_, trivial⟩
        · refine ⟨by rfl, fun K hK => ?_⟩
          simp only [List.getElem?_toArray, List.getElem?_cons_zero, List.getElem?_cons_succ]
          have hKx : Keeps [] Wc Wc.drew := (Keeps.refl [] Wc).drew
          refine wp_look _ (.tmp 39) (.tmp 41) 98 false rfl 9 40 Tryd.underlying9 Tryd.underlying98 (.slice none 0 0) (by kernel_rfl) bm c2 DI rfl (HI.out.1.keeps hKx (by simp)) v1 rfl (by unfold maxLen; omega) ?_
          simp only [Bool.false_eq_true, if_false, HE0.out]
          refine hK.out _ _ ⟨(HB.out _ (hKbc.trans hKx (by simp))).2, trivial⟩ (fun hHeld => ?_)
          clear hK K hKx
          try simp only [Act.put, List.setIfInBounds_toArray, List.set_cons_zero, List.set_cons_succ]
          refine held_c (i := 8) (by kernel_rfl) (by rfl) (fun K hK => ?_)
          simp only [List.getElem?_toArray, List.getElem?_cons_zero, List.getElem?_cons_succ]
          go_simp
          have hK1 : Keeps [] Wc (Wc.drew.alloc (.cells #[.int .i64 id] 3)) := (Keeps.refl [] Wc).drew.alloc _
          refine hK.out _ _ ⟨(HB.out _ (hKbc.trans hK1 (by simp))).2, trivial⟩ (fun hHeld => ?_)
          clear hK K
          try simp only [Act.put, List.setIfInBounds_toArray, List.set_cons_zero, List.set_cons_succ]
          refine held_c (i := 9) (by kernel_rfl) (by rfl) (fun K hK => ?_)
          simp only [List.getElem?_toArray, List.getElem?_cons_zero, List.getElem?_cons_succ]
          refine wp_append_lies _ (.tmp 42) (.tmp 44) 40 rfl 0 3 i0 (.int .i64 0) 1 8 Tryd.underlying40 hi0 hz0 hz1 hz2 rfl (by decide) (.slice A0 ids.length c0) ids.length (intC ids) rfl ((HI.out.2.2.1.own).drew.alloc _) ⟨Wc.drew.heap.size, 0, none⟩ 1 1 [.int .i64 id] rfl rfl (cell_one_new _ _ _) (by intro u hu; simp at hu; subst hu; rfl) (by decide) (by unfold maxLen; omega) (by omega) (Nat.zero_le _) _ rfl ?_
          intro g1 cap1 w4 hown1 hg1 hl0 hl1
          have hK4 : Keeps (Value.slice A0 ids.length c0).ownBlock.toList Wc w4 := (hK1.more (by simp)).grown hg1 (fun k hk => by left; simp [hk])
          have hl2 : (Value.slice A0 ids.length c0).ownBlock = some g1 ∨ Wc.heap.size ≤ g1 := hl0.imp (fun e => e) (fun e => by rw [e]; simp)
          have hN4 : NewI 0 (.slice (some ⟨g1, 0, none⟩) (ids.length + 1) cap1) (ids ++ [(id : Int)]) w4 := ⟨by rw [intC_append, show (ids ++ [(id : Int)]).length = ids.length + 1 by simp]; exact hown1, fun y hy => by
            rcases List.mem_append.1 hy with hy | hy
            · exact HI.out.2.2.1.rng y hy
            · simp at hy; subst hy; omega⟩
          have hKb4 : Keeps FH' Wb w4 := hKbc.trans hK4 (fun g hg => by simp at hg; exact hF2 g (HI.out.2.2.2.2 g hg).1)
          refine hK.out _ _ ⟨(HB.out _ hKb4).2, trivial⟩ (fun hHeld => ?_)
          have HN4 := Lib.hid (And.intro hN4 (And.intro hl2 hK4))
          clear hK K hown1 hg1 hl0 hl1 hN4 hl2
          try simp only [Act.put, List.setIfInBounds_toArray, List.set_cons_zero, List.set_cons_succ]
          refine held_c (i := 10) (by kernel_rfl) (by rfl) (fun K hK => ?_)
          simp only [List.getElem?_toArray, List.getElem?_cons_zero, List.getElem?_cons_succ]
          refine wp_store _ (.tmp 36) (.tmp 38) (.tmp 45) 98 rfl 9 40 Tryd.underlying9 Tryd.underlying98 bm c2 DI rfl (HI.out.1.keeps hK4 (fun hm => by simp at hm; exact (HI.out.2.2.2.2 _ hm).2 rfl)) (by unfold maxLen; omega) v1 (.slice (some ⟨g1, 0, none⟩) (ids.length + 1) cap1) rfl rfl (by unfold maxLen; omega) ?_
          intro w5 hM5 hg5
          have hK5 : Keeps [bm] w4 w5 := (Keeps.refl _ _).grown hg5 (fun k hk => by left; simp at hk; simp [hk])
          have hKb5 : Keeps FH' Wb w5 := hKb4.trans hK5 (fun g hg => by simp at hg; subst hg; exact hF2 _ i1)
          have hent : Entered FH bo (P' ++ [(n1, v1, id)]) (c2 + 1) w w5 := by
            have hnew := Hav.newId HH2.out hFl2 hn2 (i := id) (by rw [hbm2]; exact HI.out.1) HI.out.2.1 (g := g1) (cap := cap1) (w1 := w4) (w2 := w5) (G := (Value.slice A0 ids.length c0).ownBlock.toList) HN4.out.2.2
              (fun k hk => by simp at hk; rw [HID.out]; exact HI.out.2.2.2.1 k hk)
              (HN4.out.2.1.imp (fun h => by rw [HID.out]; exact HI.out.2.2.2.1 _ h) (fun h => h))
              (by rw [HID.out]; exact HN4.out.1) (by rw [hbm2, HID.out]; exact hM5) (by rw [hbm2]; exact hK5)
            refine ⟨_, _, _, _, Hav.congr hnew (fun x => ?_), hKb.trans hKb5 (fun g hg => hF g hg), fun x hx => ?_, fun x hx => ?_⟩
            · rw [hasN_snoc]
              by_cases e : x = n1
              · subst e; simp [hn2]
              · rw [Bool.eq_iff_iff]
                simp only [Bool.or_eq_true, decide_eq_true_eq]
                exact ⟨fun h => .inl (hnmP x h e), fun h => h.elim (HH2.out.has x) (fun h => absurd h.symm e)⟩
            · rcases List.mem_cons.1 hx with rfl | hx
              · rcases HN4.out.2.1 with h | h
                · exact hFA _ (HI.out.2.2.2.2 _ h).1
                · right; omega
              · exact hFA _ hx
            · have e5 := hK5.size
              have e4 := hK4.size
              rcases List.mem_cons.1 hx with rfl | hx
              · obtain ⟨cs, hcs⟩ := HN4.out.1.cellsAt
                have := lt_of_block hcs; omega
              · have := hFl2 x hx; omega
          refine hK.out _ _ ⟨(HB.out _ hKb5).2, trivial⟩ (fun hHeld => ?_)
          have HEnt := Lib.hid hent
          clear hK K hM5 hg5 hent hK5 hKb5 hKb4 hK4
          try simp only [Act.put, List.setIfInBounds_toArray, List.set_cons_zero, List.set_cons_succ]
          refine wpAnyH_done (by kernel_rfl) ?_ _
          go_wp2_with fail
          go_roundw
          case rel => exact ⟨k + 1, by omega, by go_num, by rw [HST.out, hcn]; exact HEnt.out.mono (by omega)⟩
          case measure => simp [intOf]; omega
        · refine ⟨by rfl, fun K hK => ?_⟩
          simp only [List.getElem?_toArray, List.getElem?_cons_zero, List.getElem?_cons_succ]
          go_simp
          have hK1 : Keeps [] Wc (Wc.drew.alloc (.cells #[.int .i64 id] 3)) := (Keeps.refl [] Wc).drew.alloc _
          refine hK.out _ _ ⟨(HB.out _ (hKbc.trans hK1 (by simp))).2, trivial⟩ (fun hHeld => ?_)
          clear hK K
          try simp only [Act.put, List.setIfInBounds_toArray, List.set_cons_zero, List.set_cons_succ]
          refine held_c (i := 6) (by kernel_rfl) (by rfl) (fun K hK => ?_)
          simp only [List.getElem?_toArray, List.getElem?_cons_zero, List.getElem?_cons_succ]
          have hKx : Keeps [] Wc (Wc.drew.alloc (.cells #[.int .i64 id] 3)) := (Keeps.refl [] Wc).drew.alloc _
          refine wp_look _ (.tmp 39) (.tmp 41) 98 false rfl 9 40 Tryd.underlying9 Tryd.underlying98 (.slice none 0 0) (by kernel_rfl) bm c2 DI rfl (HI.out.1.keeps hKx (by simp)) v1 rfl (by unfold maxLen; omega) ?_
          simp only [Bool.false_eq_true, if_false, HE0.out]
          refine hK.out _ _ ⟨(HB.out _ (hKbc.trans hKx (by simp))).2, trivial⟩ (fun hHeld => ?_)
          clear hK K hKx
          try simp only [Act.put, List.setIfInBounds_toArray, List.set_cons_zero, List.set_cons_succ]
          refine held_c (i := 9) (by kernel_rfl) (by rfl) (fun K hK => ?_)
          simp only [List.getElem?_toArray, List.getElem?_cons_zero, List.getElem?_cons_succ]
          refine wp_append_lies _ (.tmp 42) (.tmp 44) 40 rfl 0 3 i0 (.int .i64 0) 1 8 Tryd.underlying40 hi0 hz0 hz1 hz2 rfl (by decide) (.slice A0 ids.length c0) ids.length (intC ids) rfl ((HI.out.2.2.1.own).drew.alloc _) ⟨Wc.drew.heap.size, 0, none⟩ 1 1 [.int .i64 id] rfl rfl (cell_one_new _ _ _) (by intro u hu; simp at hu; subst hu; rfl) (by decide) (by unfold maxLen; omega) (by omega) (Nat.zero_le _) _ rfl ?_
          intro g1 cap1 w4 hown1 hg1 hl0 hl1
          have hK4 : Keeps (Value.slice A0 ids.length c0).ownBlock.toList Wc w4 := (hK1.more (by simp)).grown hg1 (fun k hk => by left; simp [hk])
          have hl2 : (Value.slice A0 ids.length c0).ownBlock = some g1 ∨ Wc.heap.size ≤ g1 := hl0.imp (fun e => e) (fun e => by rw [e]; simp)
          have hN4 : NewI 0 (.slice (some ⟨g1, 0, none⟩) (ids.length + 1) cap1) (ids ++ [(id : Int)]) w4 := ⟨by rw [intC_append, show (ids ++ [(id : Int)]).length = ids.length + 1 by simp]; exact hown1, fun y hy => by
            rcases List.mem_append.1 hy with hy | hy
            · exact HI.out.2.2.1.rng y hy
            · simp at hy; subst hy; omega⟩
          have hKb4 : Keeps FH' Wb w4 := hKbc.trans hK4 (fun g hg => by simp at hg; exact hF2 g (HI.out.2.2.2.2 g hg).1)
          refine hK.out _ _ ⟨(HB.out _ hKb4).2, trivial⟩ (fun hHeld => ?_)
          have HN4 := Lib.hid (And.intro hN4 (And.intro hl2 hK4))
          clear hK K hown1 hg1 hl0 hl1 hN4 hl2
          try simp only [Act.put, List.setIfInBounds_toArray, List.set_cons_zero, List.set_cons_succ]
          refine held_c (i := 10) (by kernel_rfl) (by rfl) (fun K hK => ?_)
          simp only [List.getElem?_toArray, List.getElem?_cons_zero, List.getElem?_cons_succ]
          refine wp_store _ (.tmp 36) (.tmp 38) (.tmp 45) 98 rfl 9 40 Tryd.underlying9 Tryd.underlying98 bm c2 DI rfl (HI.out.1.keeps hK4 (fun hm => by simp at hm; exact (HI.out.2.2.2.2 _ hm).2 rfl)) (by unfold maxLen; omega) v1 (.slice (some ⟨g1, 0, none⟩) (ids.length + 1) cap1) rfl rfl (by unfold maxLen; omega) ?_
          intro w5 hM5 hg5
          have hK5 : Keeps [bm] w4 w5 := (Keeps.refl _ _).grown hg5 (fun k hk => by left; simp at hk; simp [hk])
          have hKb5 : Keeps FH' Wb w5 := hKb4.trans hK5 (fun g hg => by simp at hg; subst hg; exact hF2 _ i1)
          have hent : Entered FH bo (P' ++ [(n1, v1, id)]) (c2 + 1) w w5 := by
            have hnew := Hav.newId HH2.out hFl2 hn2 (i := id) (by rw [hbm2]; exact HI.out.1) HI.out.2.1 (g := g1) (cap := cap1) (w1 := w4) (w2 := w5) (G := (Value.slice A0 ids.length c0).ownBlock.toList) HN4.out.2.2
              (fun k hk => by simp at hk; rw [HID.out]; exact HI.out.2.2.2.1 k hk)
              (HN4.out.2.1.imp (fun h => by rw [HID.out]; exact HI.out.2.2.2.1 _ h) (fun h => h))
              (by rw [HID.out]; exact HN4.out.1) (by rw [hbm2, HID.out]; exact hM5) (by rw [hbm2]; exact hK5)
            refine ⟨_, _, _, _, Hav.congr hnew (fun x => ?_), hKb.trans hKb5 (fun g hg => hF g hg), fun x hx => ?_, fun x hx => ?_⟩
            · rw [hasN_snoc]
              by_cases e : x = n1
              · subst e; simp [hn2]
              · rw [Bool.eq_iff_iff]
                simp only [Bool.or_eq_true, decide_eq_true_eq]
                exact ⟨fun h => .inl (hnmP x h e), fun h => h.elim (HH2.out.has x) (fun h => absurd h.symm e)⟩
            · rcases List.mem_cons.1 hx with rfl | hx
              · rcases HN4.out.2.1 with h | h
                · exact hFA _ (HI.out.2.2.2.2 _ h).1
                · right; omega
              · exact hFA _ hx
            · have e5 := hK5.size
              have e4 := hK4.size
              rcases List.mem_cons.1 hx with rfl | hx
              · obtain ⟨cs, hcs⟩ := HN4.out.1.cellsAt
                have := lt_of_block hcs; omega
              · have := hFl2 x hx; omega
          refine hK.out _ _ ⟨(HB.out _ hKb5).2, trivial⟩ (fun hHeld => ?_)
          have HEnt := Lib.hid hent
          clear hK K hM5 hg5 hent hK5 hKb5 hKb4 hK4
          try simp only [Act.put, List.setIfInBounds_toArray, List.set_cons_zero, List.set_cons_succ]
          refine wpAnyH_done (by kernel_rfl) ?_ _
          go_wp2_with fail
          go_roundw
          case rel => exact ⟨k + 1, by omega, by go_num, by rw [HST.out, hcn]; exact HEnt.out.mono (by omega)⟩
          case measure => simp [intOf]; omega
    · obtain rfl : k = l.length := by omega
      have he := HE.out
      rw [List.take_length] at he
      have HE2 := Lib.hid he
      clear he HE
      go_wp2_with fail
      go_end0
      exact ⟨rfl, HE2.out⟩
end Go.Proofs.YtdbifbgjbfnfmaaDoor
/-
  Layer 7 (index): the program's index with one series more: what stands in memory on the way. No function is walked.
-/
namespace Go.Proofs.YtdbifbgjbfnfmaaDoor
open Go.RowKit Go.Deep
set_option linter.unusedVariables false
set_option linter.unusedSimpArgs false
theorem findX_snoc {X : Ix} {l m : List Lab} (hl : l ∉ X) : findX (X ++ [l]) m = if m = l then some X.length else findX X m := by
  induction X with
  | nil =>
    simp only [List.nil_append, findX]
    by_cases h : l = m
    · subst h; simp
    · rw [if_neg h, if_neg (fun e => h e.symm)]; rfl
  | cons a X ih =>
    simp only [List.mem_cons, not_or] at hl
    simp only [List.cons_append, findX]
    by_cases h : a = m
    · subst h
      rw [if_pos rfl, if_pos rfl, if_neg (fun e => hl.1 e.symm)]
    · rw [if_neg h, if_neg h, ih hl.2]
      by_cases h2 : m = l
      · rw [if_pos h2, if_pos h2]; rfl
      · rw [if_neg h2, if_neg h2]
/-- All but the maps of maps has the new series. -/
structure Mid (F FH : List Nat) (q bi bo : Nat) (X : Ix) (l : List Lab) (w w7 : World) (gs cap g cg : Nat) (vs : List Value) (DI : DataW Value) : Prop where
  k7 : Keeps F w w7
  q7 : w7.heap[q]? = some (.cells #[.slice (some ⟨gs, 0, none⟩) (X.length + 1) cap, .map (some bi), .map (some bo)] 69 (0, 0))
  qF : q ∈ F
  qFH : q ∉ FH
  row : w7.ownsRow 0 23 1 (.slice (some ⟨gs, 0, none⟩) (X.length + 1) cap) (X.length + 1) (vs ++ [.slice (some ⟨g, 0, none⟩) l.length cg])
  gsF : (gs ∈ F ∨ w.heap.size ≤ gs) ∧ gs ∉ FH
  len : vs.length = X.length
  old : ∀ (j : Nat) v m, vs[j]? = some v → X[j]? = some m → RowV F FH w7 v m
  new : RowL g l w7 ∧ w.heap.size ≤ g ∧ g ∉ FH
  map : MapS Tryd.prog 9 w7 bi (X.length + 1) DI
  biF : bi ∈ F ∧ bi ∉ FH
  keys : ∀ m, okL m = true → getS DI (keyL m) = (findX (X ++ [l]) m).map fun i => .int .i64 (i : Int)
  sub : ∀ k ∈ FH, k ∈ F
  hav : Entered FH bo (pstX X) (2 * (pstX X).length) w7 w7
section
variable {F FH : List Nat} {q bi bo : Nat} {X : Ix} {l : List Lab} {w w7 : World} {gs cap g cg : Nat} {vs : List Value} {DI : DataW Value}
theorem Mid.cell (h : Mid F FH q bi bo X l w w7 gs cap g cg vs DI) : ∃ ad, (some ⟨gs, 0, none⟩ : Option Addr) = some ad ∧ (ad.add X.length).block < w7.heap.size ∧ (ad.add X.length).block ∉ FH ∧ w7.cell? (ad.add X.length) = some (.slice (some ⟨g, 0, none⟩) l.length cg) := by
  refine ⟨_, rfl, ?_, ?_, ?_⟩
  · have e : ((⟨gs, 0, none⟩ : Addr).add X.length).block = gs := by unfold Addr.add; split <;> rfl
    rw [e]; exact (h.row.lt gs rfl).2
  · have e : ((⟨gs, 0, none⟩ : Addr).add X.length).block = gs := by unfold Addr.add; split <;> rfl
    rw [e]; exact h.gsF.2
  · exact h.row.cells (g := gs) rfl X.length _ (by rw [List.getElem?_append_right (by rw [h.len]; exact Nat.le_refl _), h.len]; simp)
theorem Mid.done (h : Mid F FH q bi bo X l w w7 gs cap g cg vs DI) (hG : Good X) (hok : okL l = true) (hl : l ∉ X) (hX : X.length < 200) {w8 : World} (hE : Entered FH bo (pstX X ++ pst1 X.length l) (2 * (pstX X).length + 2 * l.length) w7 w8) :
    ∃ F', IsX F' q (X ++ [l]) w8 ∧ Keeps F w w8 ∧ ∀ k ∈ F', k ∈ F ∨ w.heap.size ≤ k := by
  obtain ⟨FH', D, ib, rb, e1, e2, e3, e4⟩ := hE
  obtain ⟨FH0, D0, ib0, rb0, f1, f2, f3, f4⟩ := h.hav
  have hF7 : ∀ k, (k ∈ F ∨ w.heap.size ≤ k) → True := fun _ _ => trivial
  have k8 : Keeps F w w8 := h.k7.trans e2 (fun k hk => .inl (h.sub k hk))
  have hsz := h.k7.size
  have hsz8 := e2.size
  have hnot : ∀ k, k ∉ FH → k < w7.heap.size → k ∉ FH' := fun k hk hlt hm => by
    rcases e3 k hm with hm | hm
    · exact hk hm
    · omega
  have hgl : g < w7.heap.size := by obtain ⟨cur, h1, _⟩ := h.new.1; exact lt_of_block h1
  have hgsl : gs < w7.heap.size := (h.row.lt gs rfl).2
  have hql : q < w7.heap.size := lt_of_block h.q7
  have hbl : bi < w7.heap.size := h.map.lt
  have hlen : (X ++ [l]).length = X.length + 1 := by simp
  -- blocks: those that were there and still are meant
  refine ⟨g :: gs :: q :: bi :: ((vs.filterMap fun v => v.ownBlock) ++ FH'), ⟨?_, ?_, by simp, FH', bi, bo, some ⟨gs, 0, none⟩, cap, vs ++ [.slice (some ⟨g, 0, none⟩) l.length cg], DI, D, ib, rb, ?_, hnot q h.qFH hql, ?_, ?_, by simp [h.len], ?_, ?_, by simp, hnot bi h.biF.2 hbl, h.keys, ?_, ?_⟩, k8, ?_⟩
  · have := hG.add l
    unfold addX at this
    rwa [if_pos ⟨hok, hl, hX⟩] at this
  · intro k hk
    simp only [List.mem_cons, List.mem_append, List.mem_filterMap] at hk
    rcases hk with rfl | rfl | rfl | rfl | ⟨v, hv, hk⟩ | hk
    · omega
    · omega
    · omega
    · omega
    · obtain ⟨j, hj, rfl⟩ := List.mem_iff_getElem.1 hv
      obtain ⟨gj, cj, ev, ⟨cur, hr, _⟩, r2, r3⟩ := h.old j vs[j] (X[j]'(by rw [← h.len]; exact hj)) (List.getElem?_eq_getElem hj) (List.getElem?_eq_getElem _)
      rw [ev] at hk
      simp [Value.ownBlock] at hk
      subst hk
      have := lt_of_block hr; omega
    · exact e4 k hk
  · have := e2.block h.q7 h.qFH
    rw [hlen]; exact this
  · rw [hlen]
    exact e2.row h.row (fun k hk => by simp [Value.ownBlock] at hk; subst hk; exact h.gsF.2)
  · intro k hk
    simp [Value.ownBlock] at hk
    subst hk
    exact ⟨by simp, hnot _ h.gsF.2 hgsl⟩
  · intro j v m hv hm
    rcases Nat.lt_or_ge j vs.length with hj | hj
    · rw [List.getElem?_append_left hj] at hv
      rw [List.getElem?_append_left (by rw [← h.len]; exact hj)] at hm
      obtain ⟨gj, cj, ev, hr, r2, r3⟩ := h.old j v m hv hm
      have hrl : gj < w7.heap.size := by obtain ⟨cur, h1, _⟩ := hr; exact lt_of_block h1
      refine ⟨gj, cj, ev, hr.keeps e2 r3, ?_, hnot _ r3 hrl⟩
      simp only [List.mem_cons, List.mem_append, List.mem_filterMap]
      right; right; right; right; left
      exact ⟨v, List.mem_of_getElem? hv, by rw [ev]; rfl⟩
    · rw [List.getElem?_append_right hj] at hv
      rw [List.getElem?_append_right (by rw [← h.len]; exact hj)] at hm
      have e0 : j - vs.length = 0 := by
        rcases Nat.eq_zero_or_pos (j - vs.length) with h0 | h0
        · exact h0
        · rw [List.getElem?_eq_none (by simp; omega)] at hv; cases hv
      rw [e0] at hv
      rw [← h.len, e0] at hm
      simp at hv hm
      subst hv hm
      exact ⟨g, cg, rfl, h.new.1.keeps e2 h.new.2.2, by simp, hnot _ h.new.2.2 hgl⟩
  · rw [hlen]; exact h.map.keeps e2 h.biF.2
  · intro k hk
    simp [hk]
  · rw [pstX_snoc]
    have : 2 * (pstX X ++ pst1 X.length l).length = 2 * (pstX X).length + 2 * l.length := by simp [pst1]; omega
    rw [this]
    exact e1
  · intro k hk
    simp only [List.mem_cons, List.mem_append, List.mem_filterMap] at hk
    rcases hk with rfl | rfl | rfl | rfl | ⟨v, hv, hk⟩ | hk
    · exact .inr h.new.2.1
    · exact h.gsF.1
    · exact .inl h.qF
    · exact .inl h.biF.1
    · obtain ⟨j, hj, rfl⟩ := List.mem_iff_getElem.1 hv
      obtain ⟨gj, cj, ev, hr, r2, r3⟩ := h.old j vs[j] (X[j]'(by rw [← h.len]; exact hj)) (List.getElem?_eq_getElem hj) (List.getElem?_eq_getElem _)
      rw [ev] at hk
      simp [Value.ownBlock] at hk
      subst hk
      exact .inl r2
    · rcases e3 k hk with hk | hk
      · exact .inl (h.sub k hk)
      · exact .inr (by omega)
end
/-- The way there. -/
theorem mid_of {F : List Nat} {q : Nat} {X : Ix} {l : List Lab} {w : World} (h : IsX F q X w) (hok : okL l = true) (hl : l ∉ X)
    {FH : List Nat} {bi bo : Nat} {A : Option Addr} {cap : Nat} {vs : List Value} {DI D : DataW Value} {ib : Txt → Nat} {rb : Txt → Txt → Nat}
    (h1 : w.heap[q]? = some (.cells #[.slice A X.length cap, .map (some bi), .map (some bo)] 69 (0, 0))) (h2 : q ∉ FH)
    (h3 : w.ownsRow 0 23 1 (.slice A X.length cap) X.length vs) (h4 : ∀ k, (Value.slice A X.length cap).ownBlock = some k → k ∈ F ∧ k ∉ FH) (h5 : vs.length = X.length)
    (h6 : ∀ (j : Nat) v l, vs[j]? = some v → X[j]? = some l → RowV F FH w v l)
    (h7 : MapS Tryd.prog 9 w bi X.length DI) (h8 : bi ∈ F) (h9 : bi ∉ FH) (h10 : ∀ l, okL l = true → getS DI (keyL l) = (findX X l).map fun i => .int .i64 (i : Int))
    (h11 : ∀ k ∈ FH, k ∈ F) (h12 : Hav FH bo (hasN (pstX X)) (pstX X) (2 * (pstX X).length) D ib rb w)
    {w2 w5 w6 : World} (K12 : Keeps [bi] w w2) (hM2 : MapS Tryd.prog 9 w2 bi (X.length + 1) (DI.put (.string (keyL l)) (.held (.int .i64 (X.length : Int)))))
    {g cg gs cap' : Nat} (K25 : Keeps [] w2 w5) (hR : RowL g l w5) (hg : w2.heap.size ≤ g)
    (K56 : Keeps (Value.slice A X.length cap).ownBlock.toList w5 w6) (o1 : w6.ownsRow 0 23 1 (.slice (some ⟨gs, 0, none⟩) (X.length + 1) cap') (X.length + 1) (vs ++ [.slice (some ⟨g, 0, none⟩) l.length cg]))
    (hgs : (Value.slice A X.length cap).ownBlock = some gs ∨ w5.heap.size ≤ gs) :
    Mid F FH q bi bo X l w (w6.setCell ⟨q, 0, none⟩ (.slice (some ⟨gs, 0, none⟩) (X.length + 1) cap')) gs cap' g cg vs (DI.put (.string (keyL l)) (.held (.int .i64 (X.length : Int)))) := by
  have hbq : bi ≠ q := h7.ne_cells h1
  have nB : ∀ k, (Value.slice A X.length cap).ownBlock = some k → k ≠ q := row_apart h3 h1 (by decide)
  have nBi : ∀ k, (Value.slice A X.length cap).ownBlock = some k → k ≠ bi := fun k hk e => by
    rcases h3.2 with ⟨e0, _⟩ | ⟨g0, cp, cur, e0, hb, hh, _⟩
    · rw [e0] at hk; simp [Value.ownBlock] at hk
    · rw [e0] at hk; simp [Value.ownBlock] at hk; subst hk; exact h7.ne_cells hh e.symm
  have q5 := K25.block (K12.block h1 (by simp; exact fun e => hbq e.symm)) (by simp)
  have q6 := K56.block q5 (fun hm => by simp at hm; exact nB q hm rfl)
  have KF6 : Keeps F w w6 := ((K12.trans K25 (by simp)).more (G := F) (fun f hf => by simp at hf; subst hf; exact .inl h8)).trans K56 (fun k hk => by simp at hk; exact .inl (h4 k hk).1)
  have hqF := h.qF
  have K67 : Keeps [q] w6 (w6.setCell ⟨q, 0, none⟩ (.slice (some ⟨gs, 0, none⟩) (X.length + 1) cap')) := (Keeps.refl _ _).setCell (.inl (by simp)) _
  have s12 := K12.size
  have s25 := K25.size
  have s56 := K56.size
  have hgl : g < w5.heap.size := by obtain ⟨cur, h, _⟩ := hR; exact lt_of_block h
  have hFlt := h.lt
  have hgB : ∀ k, (Value.slice A X.length cap).ownBlock = some k → k ≠ g := fun k hk e => by have := hFlt k (h4 k hk).1; omega
  have hgq : g ≠ q := fun e => by have := hFlt q hqF; omega
  have hgs' : gs ≠ q := fun e => row_apart o1 q6 (by decide) gs rfl e
  have hfar : ∀ k ∈ F, k ≠ bi → (∀ j, (Value.slice A X.length cap).ownBlock = some j → k ≠ j) → k ≠ q → True := fun _ _ _ _ _ => trivial
  have KH : ∀ k ∈ FH, k ≠ bi ∧ k ≠ q ∧ ∀ j, (Value.slice A X.length cap).ownBlock = some j → k ≠ j := fun k hk => ⟨fun e => h9 (e ▸ hk), fun e => h2 (e ▸ hk), fun j hj e => (h4 j hj).2 (e ▸ hk)⟩
  have rowAll : ∀ {v : Value} {m : List Lab}, RowV F FH w v m → RowV F FH (w6.setCell ⟨q, 0, none⟩ (.slice (some ⟨gs, 0, none⟩) (X.length + 1) cap')) v m := by
    rintro v m ⟨gj, cj, ev, hr, r2, r3⟩
    refine ⟨gj, cj, ev, ?_, r2, r3⟩
    have nbi : gj ≠ bi := fun e => by obtain ⟨cur, hh, _⟩ := hr; exact h7.ne_cells hh e.symm
    have nq : gj ≠ q := fun e => by
      obtain ⟨cur, hh, _⟩ := hr
      rw [e, h1] at hh
      injection hh with hh; injection hh with _ hh; exact absurd hh (by decide)
    have nr : gj ∉ (Value.slice A X.length cap).ownBlock.toList := fun hm => by
      simp at hm
      obtain ⟨cur, hh, _⟩ := hr
      exact row_apart h3 hh (by decide) gj hm rfl
    exact (((hr.keeps K12 (by simpa using nbi)).keeps K25 (by simp)).keeps K56 nr).keeps K67 (by simpa using nq)
  refine ⟨KF6.setCell (.inl hqF) _, ?_, hqF, h2, ?_, ⟨?_, ?_⟩, h5, fun j v m hv hm => rowAll (h6 j v m hv hm), ⟨?_, by omega, fun hm => by have := hFlt g (h11 g hm); omega⟩, ?_, ⟨h8, h9⟩, ?_, h11, FH, D, ib, rb, ?_, Keeps.refl _ _, fun k hk => .inl hk, fun k hk => ?_⟩
  · have := blk_set q6 0 (.slice (some ⟨gs, 0, none⟩) (X.length + 1) cap')
    simpa using this
  · exact row_set o1 (by simp [Value.ownBlock]; exact hgs') _
  · rcases hgs with e | e
    · exact .inl (h4 gs e).1
    · right; omega
  · rcases hgs with e | e
    · exact (h4 gs e).2
    · intro hm; have := hFlt gs (h11 gs hm); omega
  · exact (hR.keeps K56 (fun hm => by simp at hm; exact hgB g hm rfl)).keeps K67 (by simpa using hgq)
  · have := (hM2.keeps K25 (by simp)).keeps K56 (fun hm => by simp at hm; exact nBi bi hm rfl)
    exact this.keeps K67 (by simpa using hbq)
  · intro m hm
    rw [findX_snoc hl]
    by_cases e : m = l
    · subst e; rw [if_pos rfl, getS_put h7.isMap]; rfl
    · rw [if_neg e, getS_put_other _ _ (fun ek => e (keyL_inj _ _ (okL_small hm) (okL_small hok) ek)), h10 m hm]
  · have a1 := h12.keeps K12 (fun k hk => by simpa using (KH k hk).1)
    have a2 := (a1.keeps K25 (by simp)).keeps K56 (fun k hk hm => by simp at hm; exact (KH k hk).2.2 k hm rfl)
    exact a2.keeps K67 (fun k hk => by simpa using (KH k hk).2.1)
  · have := hFlt k (h11 k hk)
    have e : (w6.setCell ⟨q, 0, none⟩ (.slice (some ⟨gs, 0, none⟩) (X.length + 1) cap')).heap.size = w6.heap.size := by simp [World.setCell]
    rw [e]; omega
end Go.Proofs.YtdbifbgjbfnfmaaDoor
/-
  Layer 7 (index): the program's Add.
-/
namespace Go.Proofs.YtdbifbgjbfnfmaaDoor
open Go.RowKit Go.Deep
attribute [local go_sem] str_size str_append str_toList str_get str_extract
set_option linter.unusedVariables false
set_option linter.unusedSimpArgs false
/-- A slice of labels stays where a map turns. -/
theorem LAt.turned {P : Program} {k : TypeId} {w w' : World} {b n : Nat} {D : DataW Value} {A : Option Addr} {len : Nat} {l : List Lab} (h : LAt w A len l) (hM : MapS P k w b n D) (hk : Keeps [b] w w') : LAt w' A len l := by
  have hc : ∀ (p : Addr) v, p.block < w.heap.size → w.cell? p = some v → w'.cell? p = some v := fun p v hp hv => by
    have hne : p.block ≠ b := fun e => by
      obtain ⟨es, clock, hb⟩ := hM.isMapObj
      rw [← e] at hb
      simp [World.cell?, hb] at hv
    have := hk.same p.block hp (by simpa using hne)
    rw [← hv]
    unfold World.cell?
    rw [this]
  refine ⟨h.1, fun i hi => ?_⟩
  obtain ⟨h1, ad, rfl, h2, h3, h4⟩ := h.2 i hi
  exact ⟨h1, ad, rfl, Nat.lt_of_lt_of_le h2 hk.size, hc _ _ h2 h3, hc ⟨(ad.add (i * 2)).block, (ad.add (i * 2)).off + 1, none⟩ _ h2 h4⟩
set_option maxRecDepth 100000 in
set_option maxHeartbeats 1000000 in
theorem ixAdd_c (F : List Nat) (q : Nat) (X : Ix) (A : Option Addr) (len cap : Nat) (l : List Lab) (w : World) (h : IsX F q X w) (hA : LAt w A len l) (hl : l.length ≤ 5000) (hz : ∀ x ∈ l, x.1.length ≤ 4096 ∧ x.2.length ≤ 4096) (hE : Env w) :
    Calls Tryd.prog 17 #[.pointer (some ⟨q, 0, none⟩), .slice A len cap] w fun e w' => ∃ F', e = .returned (.tuple #[.int .i64 (addI X l), .int .i64 (addE X l)]) ∧ IsX F' q (addX X l) w' ∧ Keeps F w w' ∧ ∀ k ∈ F', k ∈ F ∨ w.heap.size ≤ k := by
  have hle := hA.1
  subst hle
  have ck := key_c A l.length cap l w (by omega) hA hz hE.tabs
  cases ho : okL l with
  | false =>
    rw [ho, if_neg (by simp), show eOf false = 40 from rfl] at ck
    have e1 : addI X l = 0 := by unfold addI; rw [ho]; simp
    have e2 : addE X l = 40 := by unfold addE; rw [ho]; simp
    have e3 : addX X l = X := by unfold addX; rw [ho]; simp
    rw [e1, e2, e3]
    have CK := Lib.hid ck
    have HX := Lib.hid h
    clear ck e1 e2 e3 h hA ho
    go_enter Tryd.func17, Tryd.ntmps17
    go_wp2_with (first | (go_at_call 34; refine CK.out.mono ?_; rintro e w1 ⟨rfl, hb1⟩; dsimp only))
    go_ret2
    exact ⟨F, rfl, HX.out.below hb1, Keeps.below hb1, fun k hk => .inl hk⟩
  | true =>
    rw [ho, if_pos rfl, show eOf true = 0 from rfl] at ck
    have hk := keyL_len (okL_32 ho)
    have h8 := okL_len ho
    have cn := Lib.hid (fun W (hW : Below w.heap.size w W) => ixLenS_c F q X W (h.below hW))
    have HX := Lib.hid h
    obtain ⟨FH, bi, bo, B, c, vs, DI, D, ib, rb, h1, h2, h3, h4, h5, h6, h7, h8', h9, h10, h11, h12⟩ := h.ex
    have hg := h10 l ho
    obtain ⟨K, hK⟩ : ∃ K, keyL l = K := ⟨_, rfl⟩
    rw [hK] at ck hk hg
    have hlk := fun (W : World) (hW : Below w.heap.size w W) => MapS.look (e := 3) (z := .int .i64 0) true (h7.below hW) Tryd.underlying9 Tryd.underlying66 (by kernel_rfl) K (by unfold maxLen; omega)
    have HL := Lib.hid hlk
    have hc := blk_cell h1 1
    simp only [List.getElem?_toArray, List.getElem?_cons_succ, List.getElem?_cons_zero] at hc
    have HC := Lib.hid (fun (W : World) (hW : Below w.heap.size w W) => (hW.cell (p := ⟨q, 1, none⟩) (lt_of_block h1)).trans hc)
    have CK := Lib.hid ck
    have hin : ∀ i, findX X l = some i → l ∈ X := fun i hi => by obtain ⟨a, b, _⟩ := findX_some.1 hi; exact b ▸ List.getElem_mem a
    have hX := HX.out.good.few
    cases hf : findX X l with
    | some i =>
      have hm := hin i hf
      have e1 : addI X l = i := by unfold addI; rw [if_pos ho, hf]
      have e2 : addE X l = 0 := addE_mem hm ho
      have e3 : addX X l = X := addX_mem hm
      rw [e1, e2, e3]
      rw [hf] at hg
      have HG := Lib.hid hg
      clear ck hk hg e1 e2 e3 h hA ho h1 h2 h3 h4 h5 h6 h7 h8' h9 h10 h11 h12 hlk hc hf hin hm hK
      go_enter Tryd.func17, Tryd.ntmps17
      go_wp2_with fail
      go_at_call 34
      refine CK.out.mono ?_
      rintro e w1 ⟨rfl, hb1⟩
      have hl1 := HL.out _ hb1
      have hc1 := HC.out _ hb1
      rw [HG.out] at hl1
      simp only [Option.map_some, Option.getD_some, Option.isSome_some] at hl1
      go_wp2_with fail
      go_ret2
      exact ⟨F, rfl, HX.out.below hb1, Keeps.below hb1, fun k hk => .inl hk⟩
    | none =>
      have hn := findX_none.1 hf
      rw [hf] at hg
      have HG := Lib.hid hg
      by_cases hful : 200 ≤ X.length
      · have e1 : addI X l = 0 := by unfold addI; rw [if_pos ho, hf]; simp [hful]
        have e2 : addE X l = 2 := by unfold addE; rw [if_pos ho, if_neg hn, if_pos hful]
        have e3 : addX X l = X := by unfold addX; rw [if_neg (by omega)]
        rw [e1, e2, e3]
        have t0 : ((X.length : Int) == 200) = true := by rw [beq_iff_eq]; omega
        clear ck hk hg e1 e2 e3 h hA ho h1 h2 h3 h4 h5 h6 h7 h8' h9 h10 h11 h12 hlk hc hf hin hn hK
        go_enter Tryd.func17, Tryd.ntmps17
        go_wp2_with fail
        go_at_call 34
        refine CK.out.mono ?_
        rintro e w1 ⟨rfl, hb1⟩
        have hl1 := HL.out _ hb1
        have hc1 := HC.out _ hb1
        rw [HG.out] at hl1
        simp only [Option.map_none, Option.getD_none, Option.isSome_none] at hl1
        go_wp2_with (first | (go_at_call 19; refine (cn.out _ hb1).mono ?_; rintro e w2 ⟨rfl, rfl⟩; dsimp only))
        go_ret2
        exact ⟨F, rfl, HX.out.below hb1, Keeps.below hb1, fun k hk => .inl hk⟩
      · have hX2 : X.length < 200 := by omega
        have e1 : addI X l = X.length := by unfold addI; rw [if_pos ho, hf]; simp [hful]
        have e2 : addE X l = 0 := by unfold addE; rw [if_pos ho, if_neg hn, if_neg hful]
        have e3 : addX X l = X ++ [l] := by unfold addX; rw [if_pos ⟨ho, hn, hX2⟩]
        rw [e1, e2, e3]
        have t0 : ((X.length : Int) == 200) = false := by rw [beq_eq_false_iff_ne]; omega
        have HP := Lib.hid (And.intro h1 (And.intro h2 (And.intro h3 (And.intro h4 (And.intro h5 (And.intro h6 (And.intro h7 (And.intro h8' (And.intro h9 (And.intro h10 (And.intro h11 h12)))))))))))
        have hbq : bi ≠ q := h7.ne_cells h1
        have HO := Lib.hid ho
        have HNN := Lib.hid hn
        have HA := Lib.hid hA
        have HK := Lib.hid hK
        clear ck hg e1 e2 e3 h hA h1 h2 h3 h4 h5 h6 h7 h8' h9 h10 h11 h12 hlk hc hf hin hK ho hn
        go_enter Tryd.func17, Tryd.ntmps17
        go_wp2_with fail
        go_at_call 34
        refine CK.out.mono ?_
        rintro e w1 ⟨rfl, hb1⟩
        have hl1 := HL.out _ hb1
        have hc1 := HC.out _ hb1
        rw [HG.out] at hl1
        simp only [Option.map_none, Option.getD_none, Option.isSome_none] at hl1
        go_wp2_with (first
          | (go_at_call 19; refine (cn.out _ hb1).mono ?_; rintro e w2 ⟨rfl, rfl⟩; dsimp only)
          | (at_mapUpdate; refine wpList_store _ rfl (.tmp 38) (.tmp 39) (.tmp 40) 66 rfl 9 3 Tryd.underlying9 Tryd.underlying66 bi X.length DI rfl (HP.out.2.2.2.2.2.2.1.below hb1) (by unfold maxLen; omega) K (.int .i64 X.length) rfl rfl (by unfold maxLen; omega) ?_; intro w2 hM2 hg2))
        have K12 : Keeps [bi] w w2 := (Keeps.below hb1).grown hg2 (fun k hk => by left; simp at hk; simp [hk])
        have hqB := lt_of_block HP.out.1
        have hq2 : w2.heap[q]? = some (.cells #[.slice B X.length c, .map (some bi), .map (some bo)] 69 (0, 0)) := K12.block HP.out.1 (by simp; exact fun e => hbq e.symm)
        have HQ := Lib.hid (fun (W : World) (hW : Keeps [] w2 W) => (hW.block hq2 (by simp) : W.heap[q]? = _))
        have hAw2 := HA.out.turned HP.out.2.2.2.2.2.2.1 K12
        have cc := Lib.hid (fun W (hW : Below w2.heap.size w2 W) => copied_c A l.length cap l W HO.out (hAw2.below hW))
        have HM2 := Lib.hid (And.intro hM2 K12)
        have hqs : q < w2.heap.size := lt_of_block hq2
        have hs2 := K12.size
        obtain ⟨i0, hi0, hz0, hz1, hz2⟩ := info_parts labs_info
        have hrow2 : ∀ {W W' : World}, Keeps [] W W' → Below w2.heap.size w2 W → W'.ownsRow 0 23 1 (.slice B X.length c) X.length vs := fun hk hb =>
          hk.row ((Keeps.below (F := []) hb).row (K12.row HP.out.2.2.1 (fun k hk e => by
            simp at e
            subst e
            rcases HP.out.2.2.1.2 with ⟨e0, _⟩ | ⟨g0, cp, cur, e0, hb, hh, _⟩
            · rw [e0] at hk; simp [Value.ownBlock] at hk
            · rw [e0] at hk; simp [Value.ownBlock] at hk; subst hk; exact HP.out.2.2.2.2.2.2.1.ne_cells hh rfl)) (by simp)) (by simp)
        have HROW := Lib.hid (fun W W' hk hb => @hrow2 W W' hk hb)
        have HNB := Lib.hid (row_apart HP.out.2.2.1 HP.out.1 (by decide))
        clear hl1 hc1 hM2 hg2 K12 hAw2 hrow2
        refine wp_region_held_drew (S := fun W => True ∧ True) (by kernel_rfl) ⟨trivial, trivial⟩ (fun hHeld => ?_)
        refine held_w (i := 0) (d := some 41) (v := ?_) rfl (by kernel_rfl) (by kernel_rfl) (by kernel_rfl) (fun _ _ _ h => h) (by rfl) ?_ hHeld ?_
        rotate_left
        · intro w' hSw; obtain ⟨q0, q1⟩ := hSw; simp only [List.getElem?_toArray, List.getElem?_cons_zero, List.getElem?_cons_succ]; go_simp; try with_reducible rfl
        try simp only [Act.put, List.setIfInBounds_toArray, List.set_cons_zero, List.set_cons_succ]
        refine held_w (i := 1) (d := some 42) (v := ?_) rfl (by kernel_rfl) (by kernel_rfl) (by kernel_rfl) (fun _ _ _ h => h) (by rfl) ?_ hHeld ?_
        rotate_left
        · intro w' hSw; obtain ⟨q0, q1⟩ := hSw; simp only [List.getElem?_toArray, List.getElem?_cons_zero, List.getElem?_cons_succ]; go_simp; try with_reducible rfl
        try simp only [Act.put, List.setIfInBounds_toArray, List.set_cons_zero, List.set_cons_succ]
        refine held_w (i := 2) (d := some 43) (v := ?_) rfl (by kernel_rfl) (by kernel_rfl) (by kernel_rfl) (fun _ _ _ h => h) (by rfl) ?_ hHeld ?_
        rotate_left
        · intro w' hSw; obtain ⟨q0, q1⟩ := hSw; simp only [List.getElem?_toArray, List.getElem?_cons_zero, List.getElem?_cons_succ]; go_simp; try with_reducible rfl
        try simp only [Act.put, List.setIfInBounds_toArray, List.set_cons_zero, List.set_cons_succ]
        refine held_w (i := 3) (d := some 44) (v := ?_) rfl (by kernel_rfl) (by kernel_rfl) (by kernel_rfl) (fun _ _ _ h => h) (by rfl) ?_ hHeld ?_
        rotate_left
        · intro w' hSw; obtain ⟨q0, q1⟩ := hSw; simp only [List.getElem?_toArray, List.getElem?_cons_zero, List.getElem?_cons_succ]; go_simp; try with_reducible rfl
        try simp only [Act.put, List.setIfInBounds_toArray, List.set_cons_zero, List.set_cons_succ]
        refine held_w (i := 5) (d := some 46) (v := ?_) rfl (by kernel_rfl) (by kernel_rfl) (by kernel_rfl) (fun _ _ _ h => h) (by rfl) ?_ hHeld ?_
        rotate_left
        · intro w' hSw; obtain ⟨q0, q1⟩ := hSw; simp only [List.getElem?_toArray, List.getElem?_cons_zero, List.getElem?_cons_succ]; go_simp; try with_reducible rfl
        try simp only [Act.put, List.setIfInBounds_toArray, List.set_cons_zero, List.set_cons_succ]
        refine held_many (rs := [4, 6]) (by kernel_rfl) (by simp) ⟨?_, ?_, trivial⟩
        · refine ⟨by rfl, fun K hK => ?_⟩
          simp only [List.getElem?_toArray, List.getElem?_cons_zero, List.getElem?_cons_succ]
          have hKx : Keeps [] w2 w2.drew := (Keeps.refl [] w2).drew
          have hcx := blk_cell (HQ.out _ hKx) 0
          simp only [List.getElem?_toArray, List.getElem?_cons_zero] at hcx
          go_simp
          refine hK.out _ _ ⟨trivial, trivial⟩ (fun hHeld => ?_)
          clear hK hKx hcx
          try simp only [Act.put, List.setIfInBounds_toArray, List.set_cons_zero, List.set_cons_succ]
          refine held_c (i := 6) (by kernel_rfl) (by rfl) (fun K hK => ?_)
          simp only [List.getElem?_toArray, List.getElem?_cons_zero, List.getElem?_cons_succ]
          go_simp
          refine (cc.out _ ((Below.refl _ w2).drew)).mono ?_
          rintro e w4 ⟨⟨g, cg, rfl, hgb, hR⟩, hb4⟩
          have hb4 : Below w2.heap.size w2 w4 := below_of_drew hb4
          have hgb : w2.heap.size ≤ g := hgb
          have HR := Lib.hid hR
          clear hR
          refine hK.out _ _ ⟨trivial, trivial⟩ (fun hHeld => ?_)
          clear hK
          try simp only [Act.put, List.setIfInBounds_toArray, List.set_cons_zero, List.set_cons_succ]
          refine held_c (i := 7) (by kernel_rfl) (by rfl) (fun K hK => ?_)
          simp only [List.getElem?_toArray, List.getElem?_cons_zero, List.getElem?_cons_succ]
          go_simp
          have K25 : Keeps [] w2 (w4.alloc (.cells #[.slice (some ⟨g, 0, none⟩) l.length cg] 23)) := (Keeps.below hb4).alloc _
          have HR5 := Lib.hid (HR.out.keeps (w' := w4.alloc (.cells #[.slice (some ⟨g, 0, none⟩) l.length cg] 23)) (G := []) ((Keeps.refl [] w4).alloc _) (by simp))
          refine hK.out _ _ ⟨trivial, trivial⟩ (fun hHeld => ?_)
          clear hK
          try simp only [Act.put, List.setIfInBounds_toArray, List.set_cons_zero, List.set_cons_succ]
          refine held_c (i := 8) (by kernel_rfl) (by rfl) (fun K hK => ?_)
          simp only [List.getElem?_toArray, List.getElem?_cons_zero, List.getElem?_cons_succ]
          refine wp_append_lies _ (.tmp 45) (.tmp 48) 22 rfl 0 23 i0 (.slice none 0 0) 1 24 Tryd.underlying22 hi0 hz0 hz1 hz2 rfl (by decide) (.slice B X.length c) X.length vs rfl ?_ ⟨w4.heap.size, 0, none⟩ 1 1 [.slice (some ⟨g, 0, none⟩) l.length cg] rfl rfl (cell_one_new _ _ _) (by intro u hu; simp at hu; subst hu; rfl) (by decide) (by unfold maxLen; omega) (by omega) (Nat.zero_le _) _ rfl ?_
          · exact HROW.out _ _ ((Keeps.refl [] w4).alloc _) hb4
          intro gs cap' w6 o1 hg6 hl0 hl1
          have K56 : Keeps (Value.slice B X.length c).ownBlock.toList (w4.alloc (.cells #[.slice (some ⟨g, 0, none⟩) l.length cg] 23)) w6 := (Keeps.refl _ _).grown hg6 (fun k hk => by left; simp [hk])
          have hM := mid_of HX.out HO.out HNN.out HP.out.1 HP.out.2.1 HP.out.2.2.1 HP.out.2.2.2.1 HP.out.2.2.2.2.1 HP.out.2.2.2.2.2.1 HP.out.2.2.2.2.2.2.1 HP.out.2.2.2.2.2.2.2.1 HP.out.2.2.2.2.2.2.2.2.1 HP.out.2.2.2.2.2.2.2.2.2.1 HP.out.2.2.2.2.2.2.2.2.2.2.1 HP.out.2.2.2.2.2.2.2.2.2.2.2
            HM2.out.2 (by rw [HK.out]; exact HM2.out.1) K25 HR5.out hgb K56 o1 (hl0.imp (fun h => h) (fun h => by omega))
          have hq6 : w6.heap[q]? = some (.cells #[.slice B X.length c, .map (some bi), .map (some bo)] 69 (0, 0)) := K56.block (HQ.out _ K25) (fun hm => by simp at hm; exact HNB.out q hm rfl)
          have HMid := Lib.hid hM
          have HQ6 := Lib.hid hq6
          refine hK.out _ _ ⟨trivial, trivial⟩ (fun hHeld => ?_)
          clear hK o1 hg6 hl0 hl1 hM hq6
          try simp only [Act.put, List.setIfInBounds_toArray, List.set_cons_zero, List.set_cons_succ]
          refine held_w (i := 9) (d := some 50) (v := ?_) rfl (by kernel_rfl) (by kernel_rfl) (by kernel_rfl) (fun _ _ _ h => h) (by rfl) ?_ hHeld ?_
          rotate_left
          · intro w' hSw; obtain ⟨q0, q1⟩ := hSw; simp only [List.getElem?_toArray, List.getElem?_cons_zero, List.getElem?_cons_succ]; go_simp; try with_reducible rfl
          try simp only [Act.put, List.setIfInBounds_toArray, List.set_cons_zero, List.set_cons_succ]
          refine held_w (i := 10) (d := some 51) (v := ?_) rfl (by kernel_rfl) (by kernel_rfl) (by kernel_rfl) (fun _ _ _ h => h) (by rfl) ?_ hHeld ?_
          rotate_left
          · intro w' hSw; obtain ⟨q0, q1⟩ := hSw; simp only [List.getElem?_toArray, List.getElem?_cons_zero, List.getElem?_cons_succ]; go_simp; try with_reducible rfl
          try simp only [Act.put, List.setIfInBounds_toArray, List.set_cons_zero, List.set_cons_succ]
          refine held_c (i := 11) (by kernel_rfl) (by rfl) (fun K hK => ?_)
          simp only [List.getElem?_toArray, List.getElem?_cons_zero, List.getElem?_cons_succ]
          have hcx := blk_cell HQ6.out 0
          have hfx := blk_free HQ6.out 0
          simp only [List.getElem?_toArray, List.getElem?_cons_zero] at hcx
          go_simp
          refine hK.out _ _ ⟨trivial, trivial⟩ (fun hHeld => ?_)
          clear hK hcx hfx
          try simp only [Act.put, List.setIfInBounds_toArray, List.set_cons_zero, List.set_cons_succ]
          refine wpAnyH_done (by kernel_rfl) ?_ _
          go_wp2_with fail
          refine (enter_c q X.length bo bi _ (X.length + 1) cap' g cg l FH (pstX X) (2 * (pstX X).length) _ HMid.out.q7 HMid.out.qFH HMid.out.cell HMid.out.new.1 HMid.out.new.2.2 HMid.out.hav HO.out (by omega) (by omega) (by have := HX.out.good.plen; omega) HX.out.good.plen).mono ?_
          rintro e w8 ⟨rfl, hent⟩
          have HD := Lib.hid (HMid.out.done HX.out.good HO.out HNN.out hX2 hent)
          clear hent
          go_wp2_with fail
          go_ret2
          obtain ⟨F', d1, d2, d3⟩ := HD.out
          exact ⟨F', rfl, d1, d2, d3⟩
        · refine ⟨by rfl, fun K hK => ?_⟩
          simp only [List.getElem?_toArray, List.getElem?_cons_zero, List.getElem?_cons_succ]
          go_simp
          refine (cc.out _ ((Below.refl _ w2).drew)).mono ?_
          rintro e w4 ⟨⟨g, cg, rfl, hgb, hR⟩, hb4⟩
          have hb4 : Below w2.heap.size w2 w4 := below_of_drew hb4
          have hgb : w2.heap.size ≤ g := hgb
          have HR := Lib.hid hR
          clear hR
          refine hK.out _ _ ⟨trivial, trivial⟩ (fun hHeld => ?_)
          clear hK
          try simp only [Act.put, List.setIfInBounds_toArray, List.set_cons_zero, List.set_cons_succ]
          refine held_many (rs := [4, 7]) (by kernel_rfl) (by simp) ⟨?_, ?_, trivial⟩
          · refine ⟨by rfl, fun K hK => ?_⟩
            simp only [List.getElem?_toArray, List.getElem?_cons_zero, List.getElem?_cons_succ]
            have hKx : Keeps [] w2 w4 := Keeps.below hb4
            have hcx := blk_cell (HQ.out _ hKx) 0
            simp only [List.getElem?_toArray, List.getElem?_cons_zero] at hcx
            go_simp
            refine hK.out _ _ ⟨trivial, trivial⟩ (fun hHeld => ?_)
            clear hK hKx hcx
            try simp only [Act.put, List.setIfInBounds_toArray, List.set_cons_zero, List.set_cons_succ]
            refine held_c (i := 7) (by kernel_rfl) (by rfl) (fun K hK => ?_)
            simp only [List.getElem?_toArray, List.getElem?_cons_zero, List.getElem?_cons_succ]
            go_simp
            have K25 : Keeps [] w2 (w4.alloc (.cells #[.slice (some ⟨g, 0, none⟩) l.length cg] 23)) := (Keeps.below hb4).alloc _
            have HR5 := Lib.hid (HR.out.keeps (w' := w4.alloc (.cells #[.slice (some ⟨g, 0, none⟩) l.length cg] 23)) (G := []) ((Keeps.refl [] w4).alloc _) (by simp))
            refine hK.out _ _ ⟨trivial, trivial⟩ (fun hHeld => ?_)
            clear hK
            try simp only [Act.put, List.setIfInBounds_toArray, List.set_cons_zero, List.set_cons_succ]
            refine held_c (i := 8) (by kernel_rfl) (by rfl) (fun K hK => ?_)
            simp only [List.getElem?_toArray, List.getElem?_cons_zero, List.getElem?_cons_succ]
            refine wp_append_lies _ (.tmp 45) (.tmp 48) 22 rfl 0 23 i0 (.slice none 0 0) 1 24 Tryd.underlying22 hi0 hz0 hz1 hz2 rfl (by decide) (.slice B X.length c) X.length vs rfl ?_ ⟨w4.heap.size, 0, none⟩ 1 1 [.slice (some ⟨g, 0, none⟩) l.length cg] rfl rfl (cell_one_new _ _ _) (by intro u hu; simp at hu; subst hu; rfl) (by decide) (by unfold maxLen; omega) (by omega) (Nat.zero_le _) _ rfl ?_
            · exact HROW.out _ _ ((Keeps.refl [] w4).alloc _) hb4
            intro gs cap' w6 o1 hg6 hl0 hl1
            have K56 : Keeps (Value.slice B X.length c).ownBlock.toList (w4.alloc (.cells #[.slice (some ⟨g, 0, none⟩) l.length cg] 23)) w6 := (Keeps.refl _ _).grown hg6 (fun k hk => by left; simp [hk])
            have hM := mid_of HX.out HO.out HNN.out HP.out.1 HP.out.2.1 HP.out.2.2.1 HP.out.2.2.2.1 HP.out.2.2.2.2.1 HP.out.2.2.2.2.2.1 HP.out.2.2.2.2.2.2.1 HP.out.2.2.2.2.2.2.2.1 HP.out.2.2.2.2.2.2.2.2.1 HP.out.2.2.2.2.2.2.2.2.2.1 HP.out.2.2.2.2.2.2.2.2.2.2.1 HP.out.2.2.2.2.2.2.2.2.2.2.2
              HM2.out.2 (by rw [HK.out]; exact HM2.out.1) K25 HR5.out hgb K56 o1 (hl0.imp (fun h => h) (fun h => by omega))
            have hq6 : w6.heap[q]? = some (.cells #[.slice B X.length c, .map (some bi), .map (some bo)] 69 (0, 0)) := K56.block (HQ.out _ K25) (fun hm => by simp at hm; exact HNB.out q hm rfl)
            have HMid := Lib.hid hM
            have HQ6 := Lib.hid hq6
            refine hK.out _ _ ⟨trivial, trivial⟩ (fun hHeld => ?_)
            clear hK o1 hg6 hl0 hl1 hM hq6
            try simp only [Act.put, List.setIfInBounds_toArray, List.set_cons_zero, List.set_cons_succ]
            refine held_w (i := 9) (d := some 50) (v := ?_) rfl (by kernel_rfl) (by kernel_rfl) (by kernel_rfl) (fun _ _ _ h => h) (by rfl) ?_ hHeld ?_
            rotate_left
            · intro w' hSw; obtain ⟨q0, q1⟩ := hSw; simp only [List.getElem?_toArray, List.getElem?_cons_zero, List.getElem?_cons_succ]; go_simp; try with_reducible rfl
            try simp only [Act.put, List.setIfInBounds_toArray, List.set_cons_zero, List.set_cons_succ]
            refine held_w (i := 10) (d := some 51) (v := ?_) rfl (by kernel_rfl) (by kernel_rfl) (by kernel_rfl) (fun _ _ _ h => h) (by rfl) ?_ hHeld ?_
            rotate_left
            · intro w' hSw; obtain ⟨q0, q1⟩ := hSw; simp only [List.getElem?_toArray, List.getElem?_cons_zero, List.getElem?_cons_succ]; go_simp; try with_reducible rfl
            try simp only [Act.put, List.setIfInBounds_toArray, List.set_cons_zero, List.set_cons_succ]
            refine held_c (i := 11) (by kernel_rfl) (by rfl) (fun K hK => ?_)
            simp only [List.getElem?_toArray, List.getElem?_cons_zero, List.getElem?_cons_succ]
            have hcx := blk_cell HQ6.out 0
            have hfx := blk_free HQ6.out 0
            simp only [List.getElem?_toArray, List.getElem?_cons_zero] at hcx
            go_simp
            refine hK.out _ _ ⟨trivial, trivial⟩ (fun hHeld => ?_)
            clear hK hcx hfx
            try simp only [Act.put, List.setIfInBounds_toArray, List.set_cons_zero, List.set_cons_succ]
            refine wpAnyH_done (by kernel_rfl) ?_ _
            go_wp2_with fail
            refine (enter_c q X.length bo bi _ (X.length + 1) cap' g cg l FH (pstX X) (2 * (pstX X).length) _ HMid.out.q7 HMid.out.qFH HMid.out.cell HMid.out.new.1 HMid.out.new.2.2 HMid.out.hav HO.out (by omega) (by omega) (by have := HX.out.good.plen; omega) HX.out.good.plen).mono ?_
            rintro e w8 ⟨rfl, hent⟩
            have HD := Lib.hid (HMid.out.done HX.out.good HO.out HNN.out hX2 hent)
            clear hent
            go_wp2_with fail
            go_ret2
            obtain ⟨F', d1, d2, d3⟩ := HD.out
            exact ⟨F', rfl, d1, d2, d3⟩
          · refine ⟨by rfl, fun K hK => ?_⟩
            simp only [List.getElem?_toArray, List.getElem?_cons_zero, List.getElem?_cons_succ]
            go_simp
            have K25 : Keeps [] w2 (w4.alloc (.cells #[.slice (some ⟨g, 0, none⟩) l.length cg] 23)) := (Keeps.below hb4).alloc _
            have HR5 := Lib.hid (HR.out.keeps (w' := w4.alloc (.cells #[.slice (some ⟨g, 0, none⟩) l.length cg] 23)) (G := []) ((Keeps.refl [] w4).alloc _) (by simp))
            refine hK.out _ _ ⟨trivial, trivial⟩ (fun hHeld => ?_)
            clear hK
            try simp only [Act.put, List.setIfInBounds_toArray, List.set_cons_zero, List.set_cons_succ]
            refine held_c (i := 4) (by kernel_rfl) (by rfl) (fun K hK => ?_)
            simp only [List.getElem?_toArray, List.getElem?_cons_zero, List.getElem?_cons_succ]
            have hKx : Keeps [] w2 w4 := Keeps.below hb4
            have hKx := K25
            have hcx := blk_cell (HQ.out _ hKx) 0
            simp only [List.getElem?_toArray, List.getElem?_cons_zero] at hcx
            go_simp
            refine hK.out _ _ ⟨trivial, trivial⟩ (fun hHeld => ?_)
            clear hK hKx hcx
            try simp only [Act.put, List.setIfInBounds_toArray, List.set_cons_zero, List.set_cons_succ]
            refine held_c (i := 8) (by kernel_rfl) (by rfl) (fun K hK => ?_)
            simp only [List.getElem?_toArray, List.getElem?_cons_zero, List.getElem?_cons_succ]
            refine wp_append_lies _ (.tmp 45) (.tmp 48) 22 rfl 0 23 i0 (.slice none 0 0) 1 24 Tryd.underlying22 hi0 hz0 hz1 hz2 rfl (by decide) (.slice B X.length c) X.length vs rfl ?_ ⟨w4.heap.size, 0, none⟩ 1 1 [.slice (some ⟨g, 0, none⟩) l.length cg] rfl rfl (cell_one_new _ _ _) (by intro u hu; simp at hu; subst hu; rfl) (by decide) (by unfold maxLen; omega) (by omega) (Nat.zero_le _) _ rfl ?_
            · exact HROW.out _ _ ((Keeps.refl [] w4).alloc _) hb4
            intro gs cap' w6 o1 hg6 hl0 hl1
            have K56 : Keeps (Value.slice B X.length c).ownBlock.toList (w4.alloc (.cells #[.slice (some ⟨g, 0, none⟩) l.length cg] 23)) w6 := (Keeps.refl _ _).grown hg6 (fun k hk => by left; simp [hk])
            have hM := mid_of HX.out HO.out HNN.out HP.out.1 HP.out.2.1 HP.out.2.2.1 HP.out.2.2.2.1 HP.out.2.2.2.2.1 HP.out.2.2.2.2.2.1 HP.out.2.2.2.2.2.2.1 HP.out.2.2.2.2.2.2.2.1 HP.out.2.2.2.2.2.2.2.2.1 HP.out.2.2.2.2.2.2.2.2.2.1 HP.out.2.2.2.2.2.2.2.2.2.2.1 HP.out.2.2.2.2.2.2.2.2.2.2.2
              HM2.out.2 (by rw [HK.out]; exact HM2.out.1) K25 HR5.out hgb K56 o1 (hl0.imp (fun h => h) (fun h => by omega))
            have hq6 : w6.heap[q]? = some (.cells #[.slice B X.length c, .map (some bi), .map (some bo)] 69 (0, 0)) := K56.block (HQ.out _ K25) (fun hm => by simp at hm; exact HNB.out q hm rfl)
            have HMid := Lib.hid hM
            have HQ6 := Lib.hid hq6
            refine hK.out _ _ ⟨trivial, trivial⟩ (fun hHeld => ?_)
            clear hK o1 hg6 hl0 hl1 hM hq6
            try simp only [Act.put, List.setIfInBounds_toArray, List.set_cons_zero, List.set_cons_succ]
            refine held_w (i := 9) (d := some 50) (v := ?_) rfl (by kernel_rfl) (by kernel_rfl) (by kernel_rfl) (fun _ _ _ h => h) (by rfl) ?_ hHeld ?_
            rotate_left
            · intro w' hSw; obtain ⟨q0, q1⟩ := hSw; simp only [List.getElem?_toArray, List.getElem?_cons_zero, List.getElem?_cons_succ]; go_simp; try with_reducible rfl
            try simp only [Act.put, List.setIfInBounds_toArray, List.set_cons_zero, List.set_cons_succ]
            refine held_w (i := 10) (d := some 51) (v := ?_) rfl (by kernel_rfl) (by kernel_rfl) (by kernel_rfl) (fun _ _ _ h => h) (by rfl) ?_ hHeld ?_
            rotate_left
            · intro w' hSw; obtain ⟨q0, q1⟩ := hSw; simp only [List.getElem?_toArray, List.getElem?_cons_zero, List.getElem?_cons_succ]; go_simp; try with_reducible rfl
            try simp only [Act.put, List.setIfInBounds_toArray, List.set_cons_zero, List.set_cons_succ]
            refine held_c (i := 11) (by kernel_rfl) (by rfl) (fun K hK => ?_)
            simp only [List.getElem?_toArray, List.getElem?_cons_zero, List.getElem?_cons_succ]
            have hcx := blk_cell HQ6.out 0
            have hfx := blk_free HQ6.out 0
            simp only [List.getElem?_toArray, List.getElem?_cons_zero] at hcx
            go_simp
            refine hK.out _ _ ⟨trivial, trivial⟩ (fun hHeld => ?_)
            clear hK hcx hfx
            try simp only [Act.put, List.setIfInBounds_toArray, List.set_cons_zero, List.set_cons_succ]
            refine wpAnyH_done (by kernel_rfl) ?_ _
            go_wp2_with fail
            refine (enter_c q X.length bo bi _ (X.length + 1) cap' g cg l FH (pstX X) (2 * (pstX X).length) _ HMid.out.q7 HMid.out.qFH HMid.out.cell HMid.out.new.1 HMid.out.new.2.2 HMid.out.hav HO.out (by omega) (by omega) (by have := HX.out.good.plen; omega) HX.out.good.plen).mono ?_
            rintro e w8 ⟨rfl, hent⟩
            have HD := Lib.hid (HMid.out.done HX.out.good HO.out HNN.out hX2 hent)
            clear hent
            go_wp2_with fail
            go_ret2
            obtain ⟨F', d1, d2, d3⟩ := HD.out
            exact ⟨F', rfl, d1, d2, d3⟩
end Go.Proofs.YtdbifbgjbfnfmaaDoor
