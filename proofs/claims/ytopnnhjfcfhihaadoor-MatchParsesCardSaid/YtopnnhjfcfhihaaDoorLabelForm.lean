/-
  Layer 4 (label): labels that may be, their text, their key, plain; what follows. No program is named.
-/
import Derived.Test.YtopnnhjfcfhihaaDoorLabelUtf
import Derived.Lib.Join
namespace Go.Proofs.YtopnnhjfcfhihaaDoor
open Go.RowKit Go.Deep

/-! labels that may be -/
def okFrom (ahead : List UInt8) : List Lab → Bool
  | [] => true
  | x :: r => nameL x.1 && (valueL x.2 && (!(x.2 == []) && (Op.bytesLess ahead x.1 && okFrom x.1 r)))
def okL (l : List Lab) : Bool := decide (l.length ≤ 8) && okFrom [] l
theorem okL_long {l : List Lab} (h : 8 < l.length) : okL l = false := by unfold okL; rw [show decide (l.length ≤ 8) = false by simp; omega]; rfl
theorem okL_of {l : List Lab} (h : l.length ≤ 8) : okL l = okFrom [] l := by unfold okL; rw [show decide (l.length ≤ 8) = true by simp; omega]; rfl
theorem okFrom_at {a : List UInt8} {l : List Lab} {i : Nat} (h : i < l.length) : okFrom a (l.drop i) = (nameL l[i].1 && (valueL l[i].2 && (!(l[i].2 == []) && (Op.bytesLess a l[i].1 && okFrom l[i].1 (l.drop (i + 1)))))) := by
  rw [List.drop_eq_getElem_cons h, okFrom]
theorem okFrom_end (a : List UInt8) (l : List Lab) : okFrom a (l.drop l.length) = true := by rw [List.drop_length, okFrom]
def prevN (l : List Lab) (i : Nat) : List UInt8 := if h : 0 < i ∧ i - 1 < l.length then (l[i - 1]'h.2).1 else []
theorem prevN_zero (l : List Lab) : prevN l 0 = [] := by unfold prevN; rw [dif_neg (by omega)]
theorem prevN_succ {l : List Lab} {i : Nat} (h : i < l.length) : prevN l (i + 1) = l[i].1 := by unfold prevN; rw [dif_pos ⟨by omega, by simpa using h⟩]; simp
theorem okFrom_mem {a : List UInt8} {l : List Lab} (h : okFrom a l = true) : ∀ x ∈ l, nameL x.1 = true ∧ valueL x.2 = true ∧ x.2 ≠ [] := by
  induction l generalizing a with
  | nil => intro x hx; simp at hx
  | cons y r ih =>
    simp only [okFrom, Bool.and_eq_true] at h
    intro x hx
    rcases List.mem_cons.1 hx with rfl | hx
    · refine ⟨h.1, h.2.1, ?_⟩
      intro e
      have := h.2.2.1
      rw [e] at this
      simp at this
    · exact ih h.2.2.2.2 x hx
theorem okL_len {l : List Lab} (h : okL l = true) : l.length ≤ 8 := by unfold okL at h; simp only [Bool.and_eq_true, decide_eq_true_eq] at h; exact h.1
theorem okL_from {l : List Lab} (h : okL l = true) : okFrom [] l = true := by unfold okL at h; simp only [Bool.and_eq_true, decide_eq_true_eq] at h; exact h.2
theorem okL_mem {l : List Lab} (h : okL l = true) : ∀ x ∈ l, nameL x.1 = true ∧ valueL x.2 = true ∧ x.2 ≠ [] := okFrom_mem (okL_from h)
def eOf (b : Bool) : Int := if b then 0 else 40

/-! their text -/
def partL (x : Lab) : List UInt8 := x.1 ++ 61 :: quoteL x.2
def tailB (l : List Lab) : List UInt8 := l.flatMap fun x => 44 :: partL x
def printB : List Lab → List UInt8
  | [] => []
  | x :: r => partL x ++ tailB r
def printL (l : List Lab) : List UInt8 := 123 :: (printB l ++ [125])
theorem tailB_append (a b : List Lab) : tailB (a ++ b) = tailB a ++ tailB b := by simp [tailB]
theorem printB_snoc (l : List Lab) (x : Lab) : printB (l ++ [x]) = printB l ++ ((if l = [] then [] else [44]) ++ partL x) := by
  cases l with
  | nil => simp [printB, tailB]
  | cons y r =>
    rw [List.cons_append, printB, printB, tailB_append]
    simp [tailB]
theorem printB_take {l : List Lab} {i : Nat} (h : i < l.length) : printB (l.take (i + 1)) = printB (l.take i) ++ ((if i = 0 then [] else [44]) ++ (l[i].1 ++ 61 :: quoteL l[i].2)) := by
  rw [List.take_succ_eq_append_getElem h, printB_snoc]
  by_cases hi : i = 0
  · subst hi; simp [partL]
  · rw [if_neg hi, if_neg (fun e => hi (by have := congrArg List.length e; simp only [List.length_take, List.length_nil] at this; omega))]; rfl
theorem partL_len {x : Lab} : (partL x).length ≤ x.1.length + 2 * x.2.length + 3 := by
  have := quoteL_len x.2; simp [partL]; omega
theorem printB_join (l : List Lab) : Lib.join (l.map partL) [44] = printB l := by
  cases l with
  | nil => rfl
  | cons x r =>
    rw [List.map_cons, Lib.join_cons, printB]
    simp [Lib.joinTail, tailB, List.flatMap, List.map_map, Function.comp_def]
theorem partL_ok {l : List Lab} (h : okL l = true) : ∀ x ∈ l, (partL x).length ≤ 83 := by
  intro x hx
  obtain ⟨h1, h2, _⟩ := okL_mem h x hx
  have := nameL_len h1
  have := valueL_len h2
  have := @partL_len x
  omega
theorem tailB_len {l : List Lab} (h : ∀ x ∈ l, (partL x).length ≤ 83) : (tailB l).length ≤ 84 * l.length := by
  induction l with
  | nil => simp [tailB]
  | cons x r ih =>
    have h1 := h x (by simp)
    have h2 := ih (fun y hy => h y (by simp [hy]))
    simp only [tailB, List.flatMap_cons, List.length_append, List.length_cons] at h2 ⊢
    omega
theorem printB_len {l : List Lab} (h : ∀ x ∈ l, (partL x).length ≤ 83) : (printB l).length ≤ 84 * l.length := by
  cases l with
  | nil => simp [printB]
  | cons x r =>
    have h1 := h x (by simp)
    have h2 := tailB_len (l := r) (fun y hy => h y (by simp [hy]))
    rw [printB, List.length_append, List.length_cons]
    omega
theorem printL_len {l : List Lab} (h : okL l = true) : (printL l).length ≤ 700 := by
  have h1 := printB_len (partL_ok h)
  have h2 := okL_len h
  simp [printL]; omega
theorem printL_two (l : List Lab) : 2 ≤ (printL l).length := by simp [printL]

/-! what a text could be the print of -/
/-- s, cut at its first '='. -/
def cutE : List UInt8 → Option (List UInt8 × List UInt8)
  | [] => none
  | c :: r => if c.toNat = 61 then some ([], r) else (match cutE r with | some (a, b) => some (c :: a, b) | none => none)
theorem cutE_name {n r : List UInt8} (h : ∀ c ∈ n, c.toNat ≠ 61) : cutE (n ++ 61 :: r) = some (n, r) := by
  induction n with
  | nil => rfl
  | cons c n ih =>
    have h1 := h c (by simp)
    rw [List.cons_append, cutE, if_neg h1, ih (fun x hx => h x (by simp [hx]))]
theorem printB_cons (x : Lab) (r : List Lab) : printB (x :: r) = x.1 ++ 61 :: (34 :: (quoteB x.2 ++ 34 :: tailB r)) := by
  simp [printB, partL, quoteL]
theorem cutE_print {x : Lab} {r : List Lab} (h : nameL x.1 = true) : cutE (printB (x :: r)) = some (x.1, 34 :: (quoteB x.2 ++ 34 :: tailB r)) := by
  rw [printB_cons, cutE_name (nameL_61 h)]
theorem tail_trim (r : List Lab) : (match tailB r with | 44 :: t => t | t => t) = printB r := by
  cases r with
  | nil => rfl
  | cons x r => simp [tailB, printB]
theorem printB_ne {x : Lab} {r : List Lab} : printB (x :: r) ≠ [] := by rw [printB_cons]; simp
theorem printB_inj : ∀ (a b : List Lab), (∀ x ∈ a, nameL x.1 = true) → (∀ x ∈ b, nameL x.1 = true) → printB a = printB b → a = b
  | [], [], _, _, _ => rfl
  | [], y :: b, _, _, h => absurd h.symm printB_ne
  | x :: a, [], _, _, h => absurd h printB_ne
  | x :: a, y :: b, ha, hb, h => by
    have h1 := cutE_print (r := a) (ha x (by simp))
    have h2 := cutE_print (r := b) (hb y (by simp))
    rw [h] at h1
    rw [h1] at h2
    injection h2 with h2
    injection h2 with h3 h4
    injection h4 with _ h4
    have k1 := scan_quote x.2 (tailB a)
    have k2 := scan_quote y.2 (tailB b)
    rw [h4] at k1
    rw [k1] at k2
    injection k2 with k2
    injection k2 with k3 k4
    have k5 : printB a = printB b := by rw [← tail_trim a, ← tail_trim b, k4]
    have k6 := printB_inj a b (fun z hz => ha z (by simp [hz])) (fun z hz => hb z (by simp [hz])) k5
    rw [k6]
    have : x = y := Prod.ext h3 k3
    rw [this]
theorem printL_inj {a b : List Lab} (ha : okL a = true) (hb : okL b = true) (h : printL a = printL b) : a = b := by
  unfold printL at h
  injection h with _ h
  have h := List.append_cancel_right h
  exact printB_inj a b (fun x hx => (okL_mem ha x hx).1) (fun x hx => (okL_mem hb x hx).1) h
/-- The labels whose text is s. -/
noncomputable def parseL (s : List UInt8) : Option (List Lab) := open Classical in if h : ∃ l, okL l = true ∧ printL l = s then some h.choose else none
theorem parseL_some {s : List UInt8} {l : List Lab} (h1 : okL l = true) (h2 : printL l = s) : parseL s = some l := by
  unfold parseL
  rw [dif_pos ⟨l, h1, h2⟩]
  have h := (⟨l, h1, h2⟩ : ∃ l, okL l = true ∧ printL l = s).choose_spec
  rw [printL_inj h.1 h1 (h.2.trans h2.symm)]
theorem parseL_none {s : List UInt8} (h : ∀ l, okL l = true → printL l ≠ s) : parseL s = none := by
  unfold parseL
  rw [dif_neg (fun ⟨l, h1, h2⟩ => h l h1 h2)]
theorem parseL_of {s : List UInt8} {l : List Lab} (h : parseL s = some l) : okL l = true ∧ printL l = s := by
  unfold parseL at h
  split at h
  · rename_i hh; injection h with h; rw [← h]; exact hh.choose_spec
  · cases h

/-! their key -/
def keyL (l : List Lab) : List UInt8 := l.flatMap fun x => tx x.1 ++ tx x.2
theorem keyL_append (a b : List Lab) : keyL (a ++ b) = keyL a ++ keyL b := by simp [keyL]
theorem keyL_take {l : List Lab} {i : Nat} (h : i < l.length) : keyL (l.take (i + 1)) = keyL (l.take i) ++ (tx l[i].1 ++ tx l[i].2) := by
  rw [List.take_succ_eq_append_getElem h, keyL_append]; simp [keyL]
theorem tx_inj {a b r q : List UInt8} (ha : a.length < 18446744073709551616) (hb : b.length < 18446744073709551616) (h : tx a ++ r = tx b ++ q) : a = b ∧ r = q := by
  have h1 := getT_tx [] r a ha
  have h2 := getT_tx [] q b hb
  simp only [List.nil_append] at h1 h2
  rw [h, h2] at h1
  injection h1 with h1 _
  subst h1
  exact ⟨rfl, List.append_cancel_left h⟩
theorem tx_ne (a : List UInt8) : tx a ≠ [] := by
  intro h
  have := congrArg List.length h
  have h2 := uv_pos a.length
  simp only [tx, List.length_append, List.length_nil] at this
  omega
theorem keyL_inj : ∀ (a b : List Lab), (∀ x ∈ a, x.1.length < 18446744073709551616 ∧ x.2.length < 18446744073709551616) → (∀ x ∈ b, x.1.length < 18446744073709551616 ∧ x.2.length < 18446744073709551616) → keyL a = keyL b → a = b
  | [], [], _, _, _ => rfl
  | [], y :: b, _, _, h => by simp [keyL] at h; exact absurd h.1 (tx_ne _)
  | x :: a, [], _, _, h => by simp [keyL] at h; exact absurd h.1 (tx_ne _)
  | x :: a, y :: b, ha, hb, h => by
    have hx := ha x (by simp)
    have hy := hb y (by simp)
    simp only [keyL, List.flatMap_cons, List.append_assoc] at h
    obtain ⟨h1, h⟩ := tx_inj hx.1 hy.1 h
    obtain ⟨h2, h⟩ := tx_inj hx.2 hy.2 h
    have h3 := keyL_inj a b (fun z hz => ha z (by simp [hz])) (fun z hz => hb z (by simp [hz])) h
    rw [h3]
    have : x = y := Prod.ext h1 h2
    rw [this]
theorem okL_small {l : List Lab} (h : okL l = true) : ∀ x ∈ l, x.1.length < 18446744073709551616 ∧ x.2.length < 18446744073709551616 := by
  intro x hx
  obtain ⟨h1, h2, _⟩ := okL_mem h x hx
  have := nameL_len h1
  have := valueL_len h2
  omega
theorem tx_len_le (s : List UInt8) (h : s.length ≤ 32) : (tx s).length ≤ 42 := by have := tx_len s (by omega); omega
theorem keyL_len {l : List Lab} (h : ∀ x ∈ l, x.1.length ≤ 32 ∧ x.2.length ≤ 32) : (keyL l).length ≤ 84 * l.length := by
  induction l with
  | nil => simp [keyL]
  | cons x r ih =>
    have h1 := h x (by simp)
    have h2 := ih (fun y hy => h y (by simp [hy]))
    have h3 := tx_len_le x.1 h1.1
    have h4 := tx_len_le x.2 h1.2
    simp only [keyL, List.flatMap_cons, List.length_append, List.length_cons] at h2 ⊢
    omega
theorem okL_32 {l : List Lab} (h : okL l = true) : ∀ x ∈ l, x.1.length ≤ 32 ∧ x.2.length ≤ 32 := by
  intro x hx
  obtain ⟨h1, h2, _⟩ := okL_mem h x hx
  have := nameL_len h1
  have := valueL_len h2
  omega

/-! the value of a name -/
def getL (l : List Lab) (n : List UInt8) : List UInt8 := match l with
  | [] => []
  | x :: r => if x.1 = n then x.2 else getL r n
theorem getL_here {l : List Lab} {n : List UInt8} {i : Nat} (h : i < l.length) (e : l[i].1 = n) : getL (l.drop i) n = l[i].2 := by
  rw [List.drop_eq_getElem_cons h, getL, if_pos e]
theorem getL_far {l : List Lab} {n : List UInt8} {i : Nat} (h : i < l.length) (e : l[i].1 ≠ n) : getL (l.drop i) n = getL (l.drop (i + 1)) n := by
  rw [List.drop_eq_getElem_cons h, getL, if_neg e]
theorem getL_end (l : List Lab) (n : List UInt8) : getL (l.drop l.length) n = [] := by rw [List.drop_length, getL]
end Go.Proofs.YtopnnhjfcfhihaaDoor
