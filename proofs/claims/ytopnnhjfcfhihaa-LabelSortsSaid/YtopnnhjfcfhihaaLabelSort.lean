/-
  Layer 4 (label): labels sorted by their names, those of one name in their order, plain. No program is named.
-/
import Derived.Test.YtopnnhjfcfhihaaLabelForm
namespace Go.Proofs.Ytopnnhjfcfhihaa
open Go.RowKit Go.Deep
set_option linter.unusedVariables false

theorem bl_irrefl (a : List UInt8) : Op.bytesLess a a = false := by
  induction a with
  | nil => rfl
  | cons c a ih =>
    have h : (c < c) = False := by simp
    simp only [Op.bytesLess, ih, Bool.and_false, Bool.or_false, h, decide_false]
theorem bl_trans {a b c : List UInt8} (h1 : Op.bytesLess a b = true) (h2 : Op.bytesLess b c = true) : Op.bytesLess a c = true := by
  induction a generalizing b c with
  | nil =>
    cases c with
    | nil => cases b <;> simp [Op.bytesLess] at h1 h2
    | cons z c => simp [Op.bytesLess]
  | cons x a ih =>
    cases b with
    | nil => simp [Op.bytesLess] at h1
    | cons y b =>
      cases c with
      | nil => simp [Op.bytesLess] at h2
      | cons z c =>
        simp only [Op.bytesLess, Bool.or_eq_true, decide_eq_true_eq, Bool.and_eq_true, beq_iff_eq] at *
        rcases h1 with h1 | ⟨rfl, h1⟩
        · rcases h2 with h2 | ⟨rfl, h2⟩
          · left; rw [UInt8.lt_iff_toNat_lt] at *; omega
          · left; exact h1
        · rcases h2 with h2 | ⟨rfl, h2⟩
          · left; exact h2
          · right; exact ⟨rfl, ih h1 h2⟩
/-- One is ahead of the other. -/
def ltN (x y : Lab) : Bool := Op.bytesLess x.1 y.1
theorem ltN_irrefl (x : Lab) : ltN x x = false := bl_irrefl _
theorem ltN_trans {x y z : Lab} (h1 : ltN x y = true) (h2 : ltN y z = true) : ltN x z = true := bl_trans h1 h2
theorem ltN_tri {x y : Lab} (h1 : ltN x y = false) (h2 : ltN y x = false) : x.1 = y.1 := by
  have h := less_trans_like x.1 y.1
  unfold ltN at h1 h2
  rw [h1, h2, Bool.false_or] at h
  simpa using h
theorem ltN_ne {x y : Lab} (h : ltN x y = true) : x.1 ≠ y.1 := fun e => by
  unfold ltN at h; rw [e, bl_irrefl] at h; cases h
theorem ltN_asymm {x y : Lab} (h : ltN x y = true) : ltN y x = false := by
  cases hh : ltN y x with
  | false => rfl
  | true => have := ltN_trans h hh; rw [ltN_irrefl] at this; cases this
theorem ltN_congr {x y z : Lab} (h : x.1 = y.1) : ltN x z = ltN y z ∧ ltN z x = ltN z y := by unfold ltN; rw [h]; exact ⟨rfl, rfl⟩
/-- not (y < x), not (z < y) : not (z < x). -/
theorem leN_trans {x y z : Lab} (h1 : ltN y x = false) (h2 : ltN z y = false) : ltN z x = false := by
  cases h : ltN z x with
  | false => rfl
  | true =>
    cases h3 : ltN x y with
    | true => have := ltN_trans h h3; rw [h2] at this; cases this
    | false => rw [(ltN_congr (ltN_tri h3 h1)).2, h2] at h; cases h
theorem ltN_le {x y z : Lab} (h1 : ltN x y = true) (h2 : ltN z y = false) : ltN x z = true := by
  cases h : ltN x z with
  | true => rfl
  | false =>
    cases h3 : ltN z x with
    | true => have := ltN_trans h3 h1; rw [h2] at this; cases this
    | false => rw [(ltN_congr (ltN_tri h h3)).1, h2] at h1; cases h1
theorem leN_lt {x y z : Lab} (h1 : ltN y x = false) (h2 : ltN y z = true) : ltN x z = true := by
  cases h : ltN x z with
  | true => rfl
  | false =>
    cases h3 : ltN z x with
    | true => have := ltN_trans h2 h3; rw [h1] at this; cases this
    | false => rw [← (ltN_congr (z := y) (ltN_tri h h3)).2, h1] at h2; cases h2
/-- In order. -/
def SortedN (l : List Lab) : Prop := l.Pairwise fun x y => ltN y x = false
/-- Those of each name are the same, in their order. -/
def Stb (l m : List Lab) : Prop := ∀ n, l.filter (fun x => x.1 == n) = m.filter (fun x => x.1 == n)
theorem Stb.refl (l : List Lab) : Stb l l := fun _ => rfl
theorem Stb.symm {l m : List Lab} (h : Stb l m) : Stb m l := fun n => (h n).symm
theorem Stb.trans {l m k : List Lab} (h : Stb l m) (h2 : Stb m k) : Stb l k := fun n => (h n).trans (h2 n)
theorem Stb.append {a b c d : List Lab} (h : Stb a b) (h2 : Stb c d) : Stb (a ++ c) (b ++ d) := fun n => by rw [List.filter_append, List.filter_append, h n, h2 n]
theorem Stb.mem {l m : List Lab} (h : Stb l m) {x : Lab} (hx : x ∈ l) : x ∈ m := by
  have : x ∈ l.filter (fun y => y.1 == x.1) := by simp [hx]
  rw [h] at this
  exact (List.mem_filter.1 this).1
theorem Stb.swap {u v : List Lab} (h : ∀ x ∈ u, ∀ y ∈ v, x.1 ≠ y.1) : Stb (u ++ v) (v ++ u) := fun n => by
  rw [List.filter_append, List.filter_append]
  by_cases hu : u.filter (fun x => x.1 == n) = []
  · rw [hu]; simp
  · have hv : v.filter (fun x => x.1 == n) = [] := by
      obtain ⟨x, hx⟩ := List.exists_mem_of_ne_nil _ hu
      obtain ⟨hx1, hx2⟩ := List.mem_filter.1 hx
      apply List.filter_eq_nil_iff.2
      intro y hy hyn
      simp only [beq_iff_eq] at hx2 hyn
      exact h x hx1 y hy (hx2.trans hyn.symm)
    rw [hv]; simp
/-- Two neighbours of different names change places. -/
theorem Stb.two {x y : Lab} (h : x.1 ≠ y.1) : Stb [x, y] [y, x] := Stb.swap (u := [x]) (v := [y]) (fun a ha b hb => by simp at ha hb; subst ha hb; exact h)
theorem sorted_unique : ∀ (a b : List Lab), SortedN a → SortedN b → Stb a b → a = b
  | [], [], _, _, _ => rfl
  | [], y :: b, _, _, h => by have := h.symm.mem (x := y) (by simp); simp at this
  | x :: a, [], _, _, h => by have := h.mem (x := x) (by simp); simp at this
  | x :: a, y :: b, ha, hb, h => by
    have ha' := List.pairwise_cons.1 ha
    have hb' := List.pairwise_cons.1 hb
    have h1 : ltN y x = false := by
      have hy : y ∈ x :: a := h.symm.mem (by simp)
      rcases List.mem_cons.1 hy with e | hy
      · rw [e]; exact ltN_irrefl x
      · exact ha'.1 y hy
    have h2 : ltN x y = false := by
      have hx : x ∈ y :: b := h.mem (by simp)
      rcases List.mem_cons.1 hx with e | hx
      · rw [e]; exact ltN_irrefl y
      · exact hb'.1 x hx
    have hn := ltN_tri h2 h1
    have hf := h x.1
    simp only [List.filter_cons, beq_self_eq_true, if_true, ← hn] at hf
    injection hf with hxy _
    subst hxy
    congr 1
    apply sorted_unique a b ha'.2 hb'.2
    intro n
    have hf := h n
    by_cases hxn : x.1 = n
    · simp only [List.filter_cons, hxn, beq_self_eq_true, if_true] at hf
      injection hf
    · have : (x.1 == n) = false := by simpa using hxn
      simp only [List.filter_cons, this, Bool.false_eq_true, if_false] at hf
      exact hf
/-- The document's way: one after the other, each ahead of the first that is greater. -/
def ins : List Lab → Lab → List Lab
  | [], x => [x]
  | y :: r, x => if ltN x y = true then x :: y :: r else y :: ins r x
def sortL (l : List Lab) : List Lab := l.foldl ins []
theorem ins_mem {r : List Lab} {x z : Lab} : z ∈ ins r x ↔ z = x ∨ z ∈ r := by
  induction r with
  | nil => simp [ins]
  | cons y r ih =>
    rw [ins]
    split
    · simp
    · simp [ih]; constructor
      · rintro (h | h | h) <;> simp [h]
      · rintro (h | h | h) <;> simp [h]
theorem ins_length (r : List Lab) (x : Lab) : (ins r x).length = r.length + 1 := by
  induction r with
  | nil => rfl
  | cons y r ih => rw [ins]; split <;> simp [ih]
theorem ins_sorted {r : List Lab} {x : Lab} (h : SortedN r) : SortedN (ins r x) := by
  induction r with
  | nil => simp [ins, SortedN]
  | cons y r ih =>
    have h' := List.pairwise_cons.1 h
    rw [ins]
    split
    · rename_i hlt
      refine List.pairwise_cons.2 ⟨fun z hz => ?_, h⟩
      rcases List.mem_cons.1 hz with rfl | hz
      · exact ltN_asymm hlt
      · exact leN_trans (ltN_asymm hlt) (h'.1 z hz)
    · rename_i hlt
      refine List.pairwise_cons.2 ⟨fun z hz => ?_, ih h'.2⟩
      rcases ins_mem.1 hz with rfl | hz
      · simpa using hlt
      · exact h'.1 z hz
theorem ins_stb {r : List Lab} {x : Lab} (h : SortedN r) : Stb (ins r x) (r ++ [x]) := by
  induction r with
  | nil => exact Stb.refl _
  | cons y r ih =>
    have h' := List.pairwise_cons.1 h
    rw [ins]
    split
    · rename_i hlt
      have := Stb.swap (u := [x]) (v := y :: r) (fun u hu z hz => by
        simp at hu; subst hu
        rcases List.mem_cons.1 hz with rfl | hz
        · exact ltN_ne hlt
        · exact ltN_ne (ltN_le hlt (h'.1 z hz)))
      exact this
    · exact Stb.append (Stb.refl [y]) (ih h'.2)
theorem sortL_fold (l : List Lab) : ∀ out, SortedN out → SortedN (l.foldl ins out) ∧ Stb (l.foldl ins out) (out ++ l) ∧ (l.foldl ins out).length = out.length + l.length := by
  induction l with
  | nil => intro out h; exact ⟨h, by simpa using Stb.refl out, by simp⟩
  | cons x l ih =>
    intro out h
    obtain ⟨h1, h2, h3⟩ := ih (ins out x) (ins_sorted h)
    refine ⟨h1, ?_, ?_⟩
    · have := h2.trans ((ins_stb (x := x) h).append (Stb.refl l))
      simpa using this
    · rw [List.foldl_cons, h3, ins_length]; simp; omega
theorem sortL_sorted (l : List Lab) : SortedN (sortL l) := (sortL_fold l [] List.Pairwise.nil).1
theorem sortL_stb (l : List Lab) : Stb (sortL l) l := by unfold sortL; simpa using (sortL_fold l [] List.Pairwise.nil).2.1
theorem sortL_length (l : List Lab) : (sortL l).length = l.length := by unfold sortL; simpa using (sortL_fold l [] List.Pairwise.nil).2.2
theorem sortL_eq {l m : List Lab} (h1 : SortedN m) (h2 : Stb m l) : m = sortL l := sorted_unique _ _ h1 (sortL_sorted l) (h2.trans (sortL_stb l).symm)
theorem sortL_snoc (l : List Lab) (x : Lab) : sortL (l ++ [x]) = ins (sortL l) x := by simp [sortL]
theorem getL_filter (l : List Lab) (n : List UInt8) : getL l n = (match l.filter (fun x => x.1 == n) with | [] => [] | x :: _ => x.2) := by
  induction l with
  | nil => rfl
  | cons x r ih =>
    rw [getL]
    by_cases h : x.1 = n
    · rw [if_pos h]; simp [h]
    · have : (x.1 == n) = false := by simpa using h
      rw [if_neg h, ih, List.filter_cons, this]; rfl
theorem getL_stb {l m : List Lab} (h : Stb l m) (n : List UInt8) : getL l n = getL m n := by rw [getL_filter, getL_filter, h n]
end Go.Proofs.Ytopnnhjfcfhihaa
