/-
  Layer 9 (block): the program's disk in memory: one struct with an array of texts, a map from sectors to rows of texts that wait.
-/
import Derived.Test.YtndmndchbfmppaaBlockShort
import Derived.Test.YtndmndchbfmppaaBlockMem
import Derived.Test.YtndmndchbfmppaaMapI
namespace Go.Proofs.Ytndmndchbfmppaa
open Go.RowKit Go.Deep
set_option linter.unusedVariables false
set_option linter.unusedSimpArgs false
/-- The struct's cells. -/
def cellsB (is : Nat → Byts) (bm n : Nat) (gone : Bool) (calls left keep : Nat) (i : Nat) : Value :=
  if i < 512 then .string (str (is i)) else if i = 512 then .map (some bm) else if i = 513 then .int .i64 (n : Int) else if i = 514 then .bool gone else if i = 515 then .int .i64 (calls : Int) else if i = 516 then .int .i64 (left : Int) else .int .u64 (keep : Int)
/-- F: its blocks; bk: the waiting rows' own blocks; nn: a bound of how often the map was written; lv: what stands for the order. -/
structure BodyB (F : List Nat) (q bm : Nat) (bk : Nat → Nat) (vs : Nat → Value) (D : DataW Value) (nn lv : Nat) (S : DSt) (w : World) : Prop where
  lt : ∀ k ∈ F, k < w.heap.size
  n1 : 8 ≤ S.n
  n2 : S.n ≤ 512
  rl : S.left ≤ 9223372036854775807
  rk : S.keep < 18446744073709551616
  lf : S.gone = false → lv = S.left
  ll : lv ≤ 9223372036854775807
  il : ∀ j, (S.is j).length ≤ 64
  wl : ∀ j, ∀ x ∈ S.wt j, x.length ≤ 64
  out : ∀ j, S.n ≤ j → S.wt j = []
  qF : q ∈ F
  mF : bm ∈ F
  st : w.rowIs q 54 518 (cellsB S.is bm S.n S.gone S.calls lv S.keep)
  mp : MapI Try.prog 3 w bm nn D
  no : ∀ x : Int, (getI D x).isSome = true → ∃ j, j < S.n ∧ x = (j : Int) ∧ S.wt j ≠ []
  row : ∀ j, j < S.n → S.wt j ≠ [] → getI D (j : Int) = some (vs j) ∧ NewT 0 (vs j) (short (S.wt j)) w ∧ (vs j).ownBlock = some (bk j) ∧ bk j ∈ F
  inj : ∀ i j, i < S.n → j < S.n → S.wt i ≠ [] → S.wt j ≠ [] → bk i = bk j → i = j
def IsBc (F : List Nat) (q : Nat) (S : DSt) (c : Nat) (w : World) : Prop := ∃ bm bk vs D nn lv, BodyB F q bm bk vs D nn lv S w ∧ nn ≤ c
def IsB (F : List Nat) (q : Nat) (S : DSt) (w : World) : Prop := IsBc F q S S.calls w
theorem mem_ne {F G : List Nat} (hd : ∀ k ∈ F, k ∉ G) {k : Nat} (hk : k ∈ F) : k ∉ G := hd k hk
namespace BodyB
variable {F : List Nat} {q bm : Nat} {bk : Nat → Nat} {vs : Nat → Value} {D : DataW Value} {nn lv : Nat} {S : DSt} {w : World}
theorem keeps {G : List Nat} {w' : World} (h : BodyB F q bm bk vs D nn lv S w) (hk : Keeps G w w') (hd : ∀ k ∈ F, k ∉ G) : BodyB F q bm bk vs D nn lv S w' :=
  { h with
    lt := fun k hF => Nat.lt_of_lt_of_le (h.lt k hF) hk.size
    st := rowIs_keeps h.st hk (hd _ h.qF)
    mp := h.mp.keeps hk (hd _ h.mF)
    row := fun j h1 h2 => by
      obtain ⟨a, b, c, d⟩ := h.row j h1 h2
      exact ⟨a, b.keeps hk (fun k e => by rw [c] at e; injection e with e; subst e; exact hd _ d), c, d⟩ }
theorem apart_qm (h : BodyB F q bm bk vs D nn lv S w) : q ≠ bm := by
  rintro rfl
  obtain ⟨c, hb, _⟩ := h.st
  obtain ⟨es, cl, hb2, _⟩ := h.mp
  rw [hb] at hb2
  cases hb2
theorem bkBlk (h : BodyB F q bm bk vs D nn lv S w) {j : Nat} (h1 : j < S.n) (h2 : S.wt j ≠ []) : ∃ cap cur, vs j = .slice (some ⟨bk j, 0, none⟩) (short (S.wt j)).length cap ∧ w.heap[bk j]? = some (.cells cur 9 (0, 0)) := by
  obtain ⟨a, b, c, d⟩ := h.row j h1 h2
  rcases b.own.2 with ⟨e, h0⟩ | ⟨g, cap, cur, e, hg, hb, _⟩
  · exact absurd (short_eq_nil.1 (List.length_eq_zero_iff.1 h0)) h2
  · rw [e] at c
    have : g = bk j := by simpa [Value.ownBlock] using c
    subst this
    exact ⟨cap, cur, e, hb⟩
theorem apart_qb (h : BodyB F q bm bk vs D nn lv S w) {j : Nat} (h1 : j < S.n) (h2 : S.wt j ≠ []) : q ≠ bk j := by
  obtain ⟨cap, cur, _, hb⟩ := h.bkBlk h1 h2
  obtain ⟨c, hq, _⟩ := h.st
  exact blk_apart hq hb (by decide)
theorem apart_mb (h : BodyB F q bm bk vs D nn lv S w) {j : Nat} (h1 : j < S.n) (h2 : S.wt j ≠ []) : bm ≠ bk j := by
  obtain ⟨cap, cur, _, hb⟩ := h.bkBlk h1 h2
  obtain ⟨es, cl, hm, _⟩ := h.mp
  rintro rfl
  rw [hm] at hb
  cases hb
theorem noneAt (h : BodyB F q bm bk vs D nn lv S w) {j : Nat} (h2 : S.wt j = []) : getI D (j : Int) = none := by
  rcases e : getI D (j : Int) with _ | v
  · rfl
  · obtain ⟨i, _, hi, hw⟩ := h.no (j : Int) (by rw [e]; rfl)
    obtain rfl : j = i := by omega
    exact absurd h2 hw
/-- Its own cells may be others. -/
theorem setq (h : BodyB F q bm bk vs D nn lv S w) {w' : World} (hK : Keeps [q] w w') (is : Nat → Byts) (g : Bool) (lv' l k c : Nat) (hst : w'.rowIs q 54 518 (cellsB is bm S.n g c lv' k))
    (hil : ∀ j, (is j).length ≤ 64) (hl : l ≤ 9223372036854775807) (hll : lv' ≤ 9223372036854775807) (hk : k < 18446744073709551616) (hlf : g = false → lv' = l) :
    BodyB F q bm bk vs D nn lv' { S with is := is, gone := g, left := l, keep := k, calls := c } w' :=
  { lt := fun k hF => Nat.lt_of_lt_of_le (h.lt k hF) hK.size
    n1 := h.n1, n2 := h.n2, rl := hl, rk := hk, lf := hlf, ll := hll, il := hil, wl := h.wl, out := h.out, qF := h.qF, mF := h.mF, st := hst
    mp := h.mp.keeps hK (by simpa using fun e => h.apart_qm e.symm)
    no := h.no
    row := fun j h1 h2 => by
      obtain ⟨a, b, c, d⟩ := h.row j h1 h2
      have := h.apart_qb h1 h2
      exact ⟨a, b.keeps hK (fun k e => by rw [c] at e; injection e with e; subst e; simpa using fun e => this e.symm), c, d⟩
    inj := h.inj }
/-- Nothing waits any more. -/
theorem cleared (h : BodyB F q bm bk vs D nn lv S w) {w' : World} (hK : Keeps [q, bm] w w') (hm : MapI Try.prog 3 w' bm 0 (.map [])) (is : Nat → Byts) (g : Bool) (lv' l c : Nat) (hst : w'.rowIs q 54 518 (cellsB is bm S.n g c lv' S.keep))
    (hil : ∀ j, (is j).length ≤ 64) (hl : l ≤ 9223372036854775807) (hll : lv' ≤ 9223372036854775807) (hlf : g = false → lv' = l) :
    BodyB F q bm bk vs (.map []) 0 lv' { S with is := is, wt := fun _ => [], gone := g, left := l, calls := c } w' :=
  { lt := fun k hF => Nat.lt_of_lt_of_le (h.lt k hF) hK.size
    n1 := h.n1, n2 := h.n2, rl := hl, rk := h.rk, lf := hlf, ll := hll, il := hil, wl := fun j x hx => by simp at hx, out := fun _ _ => rfl, qF := h.qF, mF := h.mF, st := hst, mp := hm
    no := fun x hx => by rw [getI_empty] at hx; simp at hx
    row := fun j h1 h2 => absurd rfl h2
    inj := fun i j _ _ h2 => absurd rfl h2 }
/-- One more waits for a sector: its row stands in g, the sector's block of yore or a new one. -/
theorem put (h : BodyB F q bm bk vs D nn lv S w) {w' : World} {i g : Nat} {s : Byts} {v : Value} {n2 : Nat} (hi : i < S.n) (hs : s.length ≤ 64) {X : List Nat} (hK : Keeps X w w') (hX : ∀ k ∈ X, k = bm ∨ (S.wt i ≠ [] ∧ k = bk i)) (hm : MapI Try.prog 3 w' bm n2 (D.put (.int .i64 (i : Int)) (.held v)))
    (hv : NewT 0 v (short (S.wt i ++ [s])) w') (hg : v.ownBlock = some g) (hg2 : w.heap.size ≤ g ∨ (S.wt i ≠ [] ∧ g = bk i)) (hg3 : g < w'.heap.size) :
    BodyB (g :: F) q bm (fun j => if j = i then g else bk j) (fun j => if j = i then v else vs j) (D.put (.int .i64 (i : Int)) (.held v)) n2 lv (putD S i s) w' := by
  have hD := h.mp.isMap
  have hgo : ∀ j, j < S.n → S.wt j ≠ [] → j ≠ i → g ≠ bk j := by
    intro j h1 h2 hne e
    rcases hg2 with h3 | ⟨h3, h4⟩
    · have := h.lt _ (h.row j h1 h2).2.2.2
      omega
    · exact hne (h.inj j i h1 hi h2 h3 (by rw [← e, h4]))
  refine { lt := fun k hF => ?_, n1 := h.n1, n2 := h.n2, rl := h.rl, rk := h.rk, lf := h.lf, ll := h.ll, il := h.il, wl := fun j x hx => ?_, out := fun j hj => ?_, qF := by simp [h.qF], mF := by simp [h.mF], st := ?_, mp := hm, no := fun x hx => ?_, row := fun j h1 h2 => ?_, inj := fun a b ha hb h1 h2 e => ?_ }
  · rcases List.mem_cons.1 hF with rfl | hF
    · exact hg3
    · exact Nat.lt_of_lt_of_le (h.lt k hF) hK.size
  · show x.length ≤ 64
    have hx2 : x ∈ updW S.wt i (S.wt i ++ [s]) j := hx
    unfold updW at hx2
    split at hx2
    · rcases List.mem_append.1 hx2 with hx2 | hx2
      · exact h.wl i x hx2
      · simp at hx2; subst hx2; exact hs
    · exact h.wl j x hx2
  · show updW S.wt i _ j = []
    unfold updW
    rw [if_neg (by have : S.n ≤ j := hj; omega)]
    exact h.out j hj
  · refine rowIs_keeps h.st hK (fun hq => ?_)
    rcases hX _ hq with e | ⟨h3, e⟩
    · exact h.apart_qm e
    · exact h.apart_qb hi h3 e
  · by_cases e : x = (i : Int)
    · exact ⟨i, hi, e, by show updW S.wt i _ i ≠ []; simp [updW]⟩
    · rw [getI_put_other _ _ e] at hx
      obtain ⟨j, h1, h2, h3⟩ := h.no x hx
      refine ⟨j, h1, h2, ?_⟩
      show updW S.wt i _ j ≠ []
      unfold updW
      rw [if_neg (by omega)]
      exact h3
  · by_cases e : j = i
    · subst e
      simp only [if_true]
      refine ⟨getI_put hD _ _, ?_, hg, by simp⟩
      have e2 : (putD S j s).wt j = S.wt j ++ [s] := by show updW _ _ _ _ = _; simp [updW]
      rw [e2]
      exact hv
    · have e2 : (putD S i s).wt j = S.wt j := by show updW _ _ _ _ = _; simp [updW, e]
      rw [e2] at h2 ⊢
      simp only [if_neg e]
      obtain ⟨a, b, c, d⟩ := h.row j h1 h2
      refine ⟨by rw [getI_put_other _ _ (by omega)]; exact a, b.keeps hK (fun k ek => ?_), c, by simp [d]⟩
      rw [c] at ek
      injection ek with ek
      subst ek
      intro hx
      rcases hX _ hx with e3 | ⟨h3, e3⟩
      · exact h.apart_mb h1 h2 e3.symm
      · exact e (h.inj j i h1 hi h2 h3 e3)
  · have e1 : ∀ j, j ≠ i → (putD S i s).wt j = S.wt j := fun j hj => by show updW _ _ _ _ = _; simp [updW, hj]
    by_cases ea : a = i
    · by_cases eb : b = i
      · rw [ea, eb]
      · rw [e1 b eb] at h2
        rw [if_pos ea, if_neg eb] at e
        exact absurd e (hgo b hb h2 eb)
    · rw [e1 a ea] at h1
      by_cases eb : b = i
      · rw [if_neg ea, if_pos eb] at e
        exact absurd e.symm (hgo a ha h1 ea)
      · rw [e1 b eb] at h2
        rw [if_neg ea, if_neg eb] at e
        exact h.inj a b ha hb h1 h2 e
/-! its cells -/
section
variable (h : BodyB F q bm bk vs D nn lv S w)
include h
theorem cIs {i : Nat} (hi : i < 512) : w.cell? ⟨q, i, none⟩ = some (.string (str (S.is i))) := by
  rw [h.st.cell (i := i) (by omega)]; simp [cellsB, hi]
theorem cM : w.cell? ⟨q, 512, none⟩ = some (.map (some bm)) := h.st.cell (i := 512) (by omega)
theorem cN : w.cell? ⟨q, 513, none⟩ = some (.int .i64 (S.n : Int)) := h.st.cell (i := 513) (by omega)
theorem cG : w.cell? ⟨q, 514, none⟩ = some (.bool S.gone) := h.st.cell (i := 514) (by omega)
theorem cC : w.cell? ⟨q, 515, none⟩ = some (.int .i64 (S.calls : Int)) := h.st.cell (i := 515) (by omega)
theorem cL : w.cell? ⟨q, 516, none⟩ = some (.int .i64 (lv : Int)) := h.st.cell (i := 516) (by omega)
theorem cK : w.cell? ⟨q, 517, none⟩ = some (.int .u64 (S.keep : Int)) := h.st.cell (i := 517) (by omega)
theorem fr (i : Nat) : w.frozen? ⟨q, i, none⟩ = false := h.st.frozen i
end
end BodyB
theorem IsB.lt {F : List Nat} {q : Nat} {S : DSt} {w : World} (h : IsB F q S w) : ∀ k ∈ F, k < w.heap.size := by
  obtain ⟨bm, bk, vs, D, nn, lv, hb, _⟩ := h
  exact hb.lt
theorem IsB.keeps {F G : List Nat} {q : Nat} {S : DSt} {w w' : World} (h : IsB F q S w) (hk : Keeps G w w') (hd : ∀ k ∈ F, k ∉ G) : IsB F q S w' := by
  obtain ⟨bm, bk, vs, D, nn, lv, hb, hc⟩ := h
  exact ⟨bm, bk, vs, D, nn, lv, hb.keeps hk hd, hc⟩
/-- What a call makes of it. -/
def DidB (F : List Nat) (q : Nat) (S : DSt) (w w' : World) : Prop := (∃ F', IsB F' q S w' ∧ ∀ k ∈ F', k ∈ F ∨ w.heap.size ≤ k) ∧ Keeps F w w'
def DidBc (F : List Nat) (q : Nat) (S : DSt) (c : Nat) (w w' : World) : Prop := (∃ F', IsBc F' q S c w' ∧ ∀ k ∈ F', k ∈ F ∨ w.heap.size ≤ k) ∧ Keeps F w w'
def MadeB (S : DSt) (B : Nat) (e : Ending) (w' : World) : Prop := ∃ q F, e = .returned (.pointer (some ⟨q, 0, none⟩)) ∧ IsB F q S w' ∧ ∀ k ∈ F, B ≤ k
theorem DidB.self {F : List Nat} {q : Nat} {S : DSt} {w : World} (h : IsB F q S w) : DidB F q S w w := ⟨⟨F, h, fun k hk => .inl hk⟩, Keeps.refl _ _⟩
theorem DidB.of {F : List Nat} {q : Nat} {S : DSt} {c : Nat} {w w' : World} {X : List Nat} (hX : ∀ k ∈ X, k ∈ F ∨ w.heap.size ≤ k) (hK : Keeps X w w') (h : IsBc F q S c w') : DidBc F q S c w w' :=
  ⟨⟨F, h, fun k hk => .inl hk⟩, hK.more hX⟩
theorem DidBc.to {F : List Nat} {q : Nat} {S : DSt} {c : Nat} {w w' : World} (h : DidBc F q S c w w') (hc : c ≤ S.calls) : DidB F q S w w' := by
  obtain ⟨⟨F', ⟨bm, bk, vs, D, nn, lv, hb, hn⟩, h2⟩, hK⟩ := h
  exact ⟨⟨F', ⟨bm, bk, vs, D, nn, lv, hb, by omega⟩, h2⟩, hK⟩
theorem DidB.after {F G X : List Nat} {q : Nat} {T : DSt} {a b c : World} (h : DidB G q T b c) (hK : Keeps X a b) (hX : ∀ k ∈ X, k ∈ F ∨ a.heap.size ≤ k) (hG : ∀ k ∈ G, k ∈ F ∨ a.heap.size ≤ k) : DidB F q T a c := by
  obtain ⟨⟨F', h1, h2⟩, h3⟩ := h
  refine ⟨⟨F', h1, fun k hk => ?_⟩, (hK.more hX).trans h3 hG⟩
  rcases h2 k hk with h | h
  · exact hG k h
  · exact .inr (Nat.le_trans hK.size h)
end Go.Proofs.Ytndmndchbfmppaa
