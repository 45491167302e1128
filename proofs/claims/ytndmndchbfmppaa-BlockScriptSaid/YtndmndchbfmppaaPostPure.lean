/-
  Layer 6 (post): lists that rise, as sets. Plain; it names no program.
-/
import Derived.Test.YtndmndchbfmppaaBase
namespace Go.Proofs.Ytndmndchbfmppaa
set_option linter.unusedVariables false
set_option linter.unusedSimpArgs false

/-- Each is above the one ahead. -/
abbrev Up (l : List Int) : Prop := l.Pairwise (· < ·)
/-- Two lists that are taken from the front, the lowest one first; f tells which are kept. -/
def mergeL (f : Bool → Bool → Bool) : List Int → List Int → List Int
  | [], [] => []
  | x :: a, [] => (if f true false = true then [x] else []) ++ mergeL f a []
  | [], y :: b => (if f false true = true then [y] else []) ++ mergeL f [] b
  | x :: a, y :: b =>
    if x < y then (if f true false = true then [x] else []) ++ mergeL f a (y :: b)
    else if y < x then (if f false true = true then [y] else []) ++ mergeL f (x :: a) b
    else (if f true true = true then [x] else []) ++ mergeL f a b
termination_by a b => a.length + b.length
/-- Where the lowest one stands. -/
def inA : List Int → List Int → Bool
  | [], _ => false
  | _ :: _, [] => true
  | x :: _, y :: _ => decide (x ≤ y)
def inB : List Int → List Int → Bool
  | _, [] => false
  | [], _ :: _ => true
  | x :: _, y :: _ => decide (y ≤ x)
theorem in_some {a b : List Int} (h : a ≠ [] ∨ b ≠ []) : inA a b = true ∨ inB a b = true := by
  match a, b with
  | [], [] => simp at h
  | x :: a, [] => exact .inl rfl
  | [], y :: b => exact .inr rfl
  | x :: a, y :: b => simp only [inA, inB, decide_eq_true_eq]; omega
theorem inA_cons {a b : List Int} (h : inA a b = true) : ∃ n r, a = n :: r := by
  match a with
  | [] => simp [inA] at h
  | x :: a => exact ⟨x, a, rfl⟩
theorem inB_cons {a b : List Int} (h : inB a b = true) : ∃ n r, b = n :: r := by
  match a, b with
  | _, [] => simp [inB] at h
  | _, y :: b => exact ⟨y, b, rfl⟩
theorem merge_a (f : Bool → Bool → Bool) {x : Int} {a b : List Int} (h1 : inA (x :: a) b = true) (h2 : inB (x :: a) b = false) : mergeL f (x :: a) b = (if f true false = true then [x] else []) ++ mergeL f a b := by
  match b with
  | [] => rw [mergeL]
  | y :: b =>
    simp only [inA, inB, decide_eq_true_eq, decide_eq_false_iff_not] at h1 h2
    rw [mergeL, if_pos (show x < y by omega)]
theorem merge_b (f : Bool → Bool → Bool) {y : Int} {a b : List Int} (h1 : inA a (y :: b) = false) (h2 : inB a (y :: b) = true) : mergeL f a (y :: b) = (if f false true = true then [y] else []) ++ mergeL f a b := by
  match a with
  | [] => rw [mergeL]
  | x :: a =>
    simp only [inA, inB, decide_eq_true_eq, decide_eq_false_iff_not] at h1 h2
    rw [mergeL, if_neg (show ¬ x < y by omega), if_pos (show y < x by omega)]
theorem merge_ab (f : Bool → Bool → Bool) {x y : Int} {a b : List Int} (h1 : inA (x :: a) (y :: b) = true) (h2 : inB (x :: a) (y :: b) = true) : x = y ∧ mergeL f (x :: a) (y :: b) = (if f true true = true then [y] else []) ++ mergeL f a b := by
  simp only [inA, inB, decide_eq_true_eq] at h1 h2
  obtain rfl : x = y := by omega
  exact ⟨rfl, by rw [mergeL, if_neg (show ¬ x < x by omega), if_neg (show ¬ x < x by omega)]⟩
theorem merge_nil (f : Bool → Bool → Bool) : mergeL f [] [] = [] := by rw [mergeL]
theorem mem_kept {p : Bool} {x n : Int} : x ∈ (if p = true then [n] else []) ↔ p = true ∧ x = n := by cases p <;> simp
theorem mem_merge_some (f : Bool → Bool → Bool) (a b : List Int) : ∀ x, x ∈ mergeL f a b → x ∈ a ∨ x ∈ b := by
  induction a, b using mergeL.induct with
  | case1 => intro x h; simp [merge_nil] at h
  | case2 y a ih => intro x h; rw [mergeL, List.mem_append, mem_kept] at h; have := ih x; simp at this ⊢; rcases h with h | h <;> simp_all
  | case3 y b ih => intro x h; rw [mergeL, List.mem_append, mem_kept] at h; have := ih x; simp at this ⊢; rcases h with h | h <;> simp_all
  | case4 y a z b h1 ih => intro x h; rw [mergeL, if_pos h1, List.mem_append, mem_kept] at h; have := ih x; simp only [List.mem_cons] at this ⊢; grind
  | case5 y a z b h1 h2 ih => intro x h; rw [mergeL, if_neg h1, if_pos h2, List.mem_append, mem_kept] at h; have := ih x; simp only [List.mem_cons] at this ⊢; grind
  | case6 y a z b h1 h2 ih => intro x h; rw [mergeL, if_neg h1, if_neg h2, List.mem_append, mem_kept] at h; have := ih x; simp only [List.mem_cons] at this ⊢; grind
theorem len_merge (f : Bool → Bool → Bool) (a b : List Int) : (mergeL f a b).length ≤ a.length + b.length := by
  have hk : ∀ (p : Bool) (n : Int), (if p = true then [n] else []).length ≤ 1 := by intro p n; cases p <;> simp
  induction a, b using mergeL.induct with
  | case1 => simp [merge_nil]
  | case2 y a ih => rw [mergeL, List.length_append]; have := hk (f true false) y; simp at ih ⊢; omega
  | case3 y b ih => rw [mergeL, List.length_append]; have := hk (f false true) y; simp at ih ⊢; omega
  | case4 y a z b h1 ih => rw [mergeL, if_pos h1, List.length_append]; have := hk (f true false) y; simp at ih ⊢; omega
  | case5 y a z b h1 h2 ih => rw [mergeL, if_neg h1, if_pos h2, List.length_append]; have := hk (f false true) z; simp at ih ⊢; omega
  | case6 y a z b h1 h2 ih => rw [mergeL, if_neg h1, if_neg h2, List.length_append]; have := hk (f true true) y; simp at ih ⊢; omega
theorem up_kept {p : Bool} {n : Int} {l : List Int} (h : ∀ x ∈ l, n < x) (hl : Up l) : Up ((if p = true then [n] else []) ++ l) := by
  cases p
  · simpa using hl
  · simpa using ⟨h, hl⟩
theorem up_merge (f : Bool → Bool → Bool) (a b : List Int) : Up a → Up b → Up (mergeL f a b) := by
  induction a, b using mergeL.induct with
  | case1 => intro _ _; simp [merge_nil]
  | case2 y a ih =>
    intro ha hb; rw [mergeL]
    rw [Up, List.pairwise_cons] at ha
    exact up_kept (fun x hx => by rcases mem_merge_some f _ _ x hx with h | h; exact ha.1 x h; simp at h) (ih ha.2 hb)
  | case3 y b ih =>
    intro ha hb; rw [mergeL]
    rw [Up, List.pairwise_cons] at hb
    exact up_kept (fun x hx => by rcases mem_merge_some f _ _ x hx with h | h; simp at h; exact hb.1 x h) (ih ha hb.2)
  | case4 y a z b h1 ih =>
    intro ha hb; rw [mergeL, if_pos h1]
    rw [Up, List.pairwise_cons] at ha
    have hb2 := hb
    rw [Up, List.pairwise_cons] at hb2
    refine up_kept (fun x hx => ?_) (ih ha.2 hb)
    rcases mem_merge_some f _ _ x hx with h | h
    · exact ha.1 x h
    · rcases List.mem_cons.1 h with rfl | h
      · exact h1
      · exact Int.lt_trans h1 (hb2.1 x h)
  | case5 y a z b h1 h2 ih =>
    intro ha hb; rw [mergeL, if_neg h1, if_pos h2]
    rw [Up, List.pairwise_cons] at hb
    have ha2 := ha
    rw [Up, List.pairwise_cons] at ha2
    refine up_kept (fun x hx => ?_) (ih ha hb.2)
    rcases mem_merge_some f _ _ x hx with h | h
    · rcases List.mem_cons.1 h with rfl | h
      · exact h2
      · exact Int.lt_trans h2 (ha2.1 x h)
    · exact hb.1 x h
  | case6 y a z b h1 h2 ih =>
    intro ha hb; rw [mergeL, if_neg h1, if_neg h2]
    obtain rfl : y = z := by omega
    rw [Up, List.pairwise_cons] at ha hb
    refine up_kept (fun x hx => ?_) (ih ha.2 hb.2)
    rcases mem_merge_some f _ _ x hx with h | h
    · exact ha.1 x h
    · exact hb.1 x h
theorem not_mem_low {n : Int} {l : List Int} (h : ∀ x ∈ l, n < x) : n ∉ l := fun hm => by have := h n hm; omega
theorem mem_merge (f : Bool → Bool → Bool) (a b : List Int) : Up a → Up b → ∀ x, x ∈ mergeL f a b ↔ (x ∈ a ∨ x ∈ b) ∧ f (decide (x ∈ a)) (decide (x ∈ b)) = true := by
  induction a, b using mergeL.induct with
  | case1 => intro _ _ x; simp [merge_nil]
  | case2 y a ih =>
    intro ha hb x; rw [mergeL, List.mem_append, mem_kept]
    rw [Up, List.pairwise_cons] at ha
    rw [ih ha.2 hb]
    have := not_mem_low ha.1
    by_cases e : x = y
    · subst e; simp [this]
    · simp [e]
  | case3 y b ih =>
    intro ha hb x; rw [mergeL, List.mem_append, mem_kept]
    rw [Up, List.pairwise_cons] at hb
    rw [ih ha hb.2]
    have := not_mem_low hb.1
    by_cases e : x = y
    · subst e; simp [this]
    · simp [e]
  | case4 y a z b h1 ih =>
    intro ha hb x; rw [mergeL, if_pos h1, List.mem_append, mem_kept]
    rw [Up, List.pairwise_cons] at ha
    rw [ih ha.2 hb]
    rw [Up, List.pairwise_cons] at hb
    have hn := not_mem_low ha.1
    by_cases e : x = y
    · subst e
      have h3 : x ∉ b := fun hm => by have := hb.1 x hm; omega
      have h4 : x ≠ z := by omega
      simp [hn, h3, h4]
    · simp [e]
  | case5 y a z b h1 h2 ih =>
    intro ha hb x; rw [mergeL, if_neg h1, if_pos h2, List.mem_append, mem_kept]
    rw [Up, List.pairwise_cons] at hb
    rw [ih ha hb.2]
    rw [Up, List.pairwise_cons] at ha
    have hn := not_mem_low hb.1
    by_cases e : x = z
    · subst e
      have h3 : x ∉ a := fun hm => by have := ha.1 x hm; omega
      have h4 : x ≠ y := by omega
      simp [hn, h3, h4]
    · simp [e]
  | case6 y a z b h1 h2 ih =>
    intro ha hb x; rw [mergeL, if_neg h1, if_neg h2, List.mem_append, mem_kept]
    obtain rfl : y = z := by omega
    rw [Up, List.pairwise_cons] at ha hb
    rw [ih ha.2 hb.2]
    have h3 := not_mem_low ha.1
    have h4 := not_mem_low hb.1
    by_cases e : x = y
    · subst e; simp [h3, h4]
    · simp [e]
/-- Lists that rise and hold the same are the same. -/
theorem up_ext : ∀ {a b : List Int}, Up a → Up b → (∀ x, x ∈ a ↔ x ∈ b) → a = b := by
  intro a
  induction a with
  | nil => intro b _ _ h; match b with
    | [] => rfl
    | y :: b => have := (h y).2 (by simp); simp at this
  | cons x a ih =>
    intro b ha hb h
    match b with
    | [] => have := (h x).1 (by simp); simp at this
    | y :: b =>
      rw [Up, List.pairwise_cons] at ha hb
      have hxy : x = y := by
        have h1 := (h x).1 (by simp)
        have h2 := (h y).2 (by simp)
        rcases List.mem_cons.1 h1 with e | h1
        · exact e
        · rcases List.mem_cons.1 h2 with e | h2
          · exact e.symm
          · have := hb.1 x h1; have := ha.1 y h2; omega
      subst hxy
      rw [ih ha.2 hb.2 fun z => ?_]
      have h0 := h z
      have h3 := not_mem_low ha.1
      have h4 := not_mem_low hb.1
      by_cases e : z = x
      · subst e; simp [h3, h4]
      · simpa [e] using h0
/-! the three -/
def fAnd (p q : Bool) : Bool := p && q
def fOr (p q : Bool) : Bool := p || q
def fNot (p q : Bool) : Bool := p && !q
theorem mem_and {a b : List Int} (ha : Up a) (hb : Up b) (x : Int) : x ∈ mergeL fAnd a b ↔ x ∈ a ∧ x ∈ b := by
  rw [mem_merge _ _ _ ha hb]; simp only [fAnd, Bool.and_eq_true, decide_eq_true_eq]; exact ⟨fun h => h.2, fun h => ⟨.inl h.1, h⟩⟩
theorem mem_or {a b : List Int} (ha : Up a) (hb : Up b) (x : Int) : x ∈ mergeL fOr a b ↔ x ∈ a ∨ x ∈ b := by
  rw [mem_merge _ _ _ ha hb]; simp only [fOr, Bool.or_eq_true, decide_eq_true_eq]; exact ⟨fun h => h.2, fun h => ⟨h, h⟩⟩
theorem mem_not {a b : List Int} (ha : Up a) (hb : Up b) (x : Int) : x ∈ mergeL fNot a b ↔ x ∈ a ∧ x ∉ b := by
  rw [mem_merge _ _ _ ha hb]; simp only [fNot, Bool.and_eq_true, Bool.not_eq_true', decide_eq_true_eq, decide_eq_false_iff_not]; exact ⟨fun h => h.2, fun h => ⟨.inl h.1, h⟩⟩
/-! the document's -/
def andL (a b : List Int) : List Int := a.filter (fun x => decide (x ∈ b))
def notL (a b : List Int) : List Int := a.filter (fun x => !decide (x ∈ b))
theorem up_filter {a : List Int} (p : Int → Bool) (h : Up a) : Up (a.filter p) := h.sublist List.filter_sublist
theorem and_eq {a b : List Int} (ha : Up a) (hb : Up b) : mergeL fAnd a b = andL a b :=
  up_ext (up_merge _ _ _ ha hb) (up_filter _ ha) fun x => by rw [mem_and ha hb]; simp [andL]
theorem not_eq {a b : List Int} (ha : Up a) (hb : Up b) : mergeL fNot a b = notL a b :=
  up_ext (up_merge _ _ _ ha hb) (up_filter _ ha) fun x => by rw [mem_not ha hb]; simp [notL]
/-! rising ones of a list -/
def stepR (out : List Int) (x : Int) : List Int := match out.getLast? with
  | none => [x]
  | some y => if y < x then out ++ [x] else out
def risL (l : List Int) : List Int := (l.take 200).foldl stepR []
theorem up_snoc {l : List Int} {x : Int} (h : Up l) (hx : ∀ y ∈ l, y < x) : Up (l ++ [x]) := by
  rw [Up, List.pairwise_append]; exact ⟨h, by simp, fun a ha b hb => by simp at hb; subst hb; exact hx a ha⟩
theorem up_last {l : List Int} {y : Int} (h : Up l) (hy : l.getLast? = some y) : ∀ x ∈ l, x ≤ y := by
  obtain ⟨m, rfl⟩ := List.getLast?_eq_some_iff.1 hy
  rw [Up, List.pairwise_append] at h
  intro x hx
  rcases List.mem_append.1 hx with hx | hx
  · have := h.2.2 x hx y (by simp); omega
  · simp at hx; omega
theorem up_stepR {out : List Int} {x : Int} (h : Up out) : Up (stepR out x) := by
  unfold stepR
  split
  · simp
  · rename_i y hy
    split
    · exact up_snoc h fun z hz => by have := up_last h hy z hz; omega
    · exact h
theorem mem_stepR {out : List Int} {x : Int} : ∀ y ∈ stepR out x, y ∈ out ∨ y = x := by
  intro y h
  unfold stepR at h
  split at h
  · simp at h; exact .inr h
  · split at h
    · simpa using h
    · exact .inl h
theorem len_stepR (out : List Int) (x : Int) : (stepR out x).length ≤ out.length + 1 := by
  unfold stepR
  split
  · simp
  · split <;> simp
theorem up_foldR (l : List Int) : ∀ out, Up out → Up (l.foldl stepR out) := by
  induction l with
  | nil => intro out h; exact h
  | cons x l ih => intro out h; exact ih _ (up_stepR h)
theorem mem_foldR (l : List Int) : ∀ out, ∀ y ∈ l.foldl stepR out, y ∈ out ∨ y ∈ l := by
  induction l with
  | nil => intro out y h; exact .inl h
  | cons x l ih =>
    intro out y h
    rcases ih _ y h with h | h
    · rcases mem_stepR y h with h | h
      · exact .inl h
      · subst h; exact .inr (by simp)
    · exact .inr (by simp [h])
theorem len_foldR (l : List Int) : ∀ out, (l.foldl stepR out).length ≤ out.length + l.length := by
  induction l with
  | nil => intro out; simp
  | cons x l ih => intro out; have := ih (stepR out x); have := len_stepR out x; simp at *; omega
theorem up_risL (l : List Int) : Up (risL l) := up_foldR _ _ (by simp)
theorem mem_risL (l : List Int) : ∀ y ∈ risL l, y ∈ l := fun y h => by
  rcases mem_foldR _ _ y h with h | h
  · simp at h
  · exact List.mem_of_mem_take h
theorem len_risL (l : List Int) : (risL l).length ≤ 200 := by
  have := len_foldR (l.take 200) []
  rw [List.length_take] at this
  simp at this; unfold risL; omega
theorem fold_take (l : List Int) (i : Nat) (h : i < l.length) : (l.take (i + 1)).foldl stepR [] = stepR ((l.take i).foldl stepR []) l[i] := by
  rw [List.take_succ_eq_append_getElem h, List.foldl_append]; rfl
/-! whether a list rises -/
theorem up_take (l : List Int) (i : Nat) (h : i + 1 < l.length) : Up (l.take (i + 2)) ↔ Up (l.take (i + 1)) ∧ l[i]'(by omega) < l[i + 1] := by
  rw [List.take_succ_eq_append_getElem h]
  constructor
  · intro hu
    rw [Up, List.pairwise_append] at hu
    refine ⟨hu.1, hu.2.2 _ ?_ _ (by simp)⟩
    rw [List.take_succ_eq_append_getElem (show i < l.length by omega)]; exact List.mem_append_right _ (by simp)
  · intro ⟨hu, hx⟩
    refine up_snoc hu fun y hy => ?_
    have hl : (l.take (i + 1)).getLast? = some (l[i]'(by omega)) := by
      rw [List.take_succ_eq_append_getElem (show i < l.length by omega)]; exact List.getLast?_concat
    have := up_last hu hl y hy
    omega
/-! union of lists -/
theorem unionL_mem (L : List (List Int)) : ∀ acc : List Int, Up acc → (∀ l ∈ L, Up l) → Up (L.foldl (mergeL fOr) acc) ∧ ∀ x, x ∈ L.foldl (mergeL fOr) acc ↔ x ∈ acc ∨ ∃ l ∈ L, x ∈ l := by
  induction L with
  | nil => intro acc h _; exact ⟨h, fun x => by simp⟩
  | cons m L ih =>
    intro acc h hL
    have hm := hL m (by simp)
    have := ih (mergeL fOr acc m) (up_merge _ _ _ h hm) (fun l hl => hL l (by simp [hl]))
    refine ⟨this.1, fun x => ?_⟩
    rw [List.foldl_cons, this.2, mem_or h hm]
    simp only [List.mem_cons, exists_eq_or_imp, or_assoc]
end Go.Proofs.Ytndmndchbfmppaa
