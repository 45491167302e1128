/-
  Layer 4 (label): the document's answers as plain functions on lists of bytes, and what follows of them. No program is named.
-/
import Derived.Test.YtopnnhjfcfhihaaDoorZigPure
namespace Go.Proofs.YtopnnhjfcfhihaaDoor
open Go.RowKit Go.Deep

/-- A label: its name, its value. -/
abbrev Lab := List UInt8 × List UInt8

/-! names -/
def lowC (c : UInt8) : Bool := decide (97 ≤ c.toNat ∧ c.toNat ≤ 122)
def nameC (c : UInt8) : Bool := decide ((97 ≤ c.toNat ∧ c.toNat ≤ 122) ∨ (48 ≤ c.toNat ∧ c.toNat ≤ 57) ∨ c.toNat = 95)
def nameL (s : List UInt8) : Bool := decide (s.length ≤ 16) && (match s with | [] => false | c :: _ => lowC c && s.all nameC)
theorem lowC_nameC {c : UInt8} (h : lowC c = true) : nameC c = true := by
  unfold lowC nameC at *; simp at *; omega
theorem nameL_ne {s : List UInt8} (h : nameL s = true) : s ≠ [] := by rintro rfl; simp [nameL] at h
theorem nameL_all {s : List UInt8} (h : nameL s = true) : ∀ c ∈ s, nameC c = true := by
  unfold nameL at h
  cases s with
  | nil => simp at h
  | cons c r => simp only [Bool.and_eq_true, List.all_eq_true] at h; exact h.2.2
theorem nameL_len {s : List UInt8} (h : nameL s = true) : s.length ≤ 16 := by
  unfold nameL at h; simp only [Bool.and_eq_true, decide_eq_true_eq] at h; exact h.1
theorem nameC_61 {c : UInt8} (h : nameC c = true) : c.toNat ≠ 61 := by unfold nameC at h; simp at h; omega
theorem nameL_61 {s : List UInt8} (h : nameL s = true) : ∀ c ∈ s, c.toNat ≠ 61 := fun c hc => nameC_61 (nameL_all h c hc)
/-- A byte at place i that is none. -/
theorem nameL_bad {s : List UInt8} {i : Nat} (h : i < s.length) (hc : nameC s[i] = false) : nameL s = false := by
  cases hn : nameL s with
  | false => rfl
  | true => exact absurd (nameL_all hn _ (List.getElem_mem h)) (by simp [hc])
theorem nameL_bad0 {s : List UInt8} {h : 0 < s.length} (hc : lowC s[0] = false) : nameL s = false := by
  cases s with
  | nil => simp at h
  | cons c r => simp at hc; simp [nameL, hc]
theorem nameL_good {s : List UInt8} (h0 : 0 < s.length) (h1 : s.length ≤ 16) (hl : lowC s[0] = true) (ha : ∀ i (h : i < s.length), nameC s[i] = true) : nameL s = true := by
  cases s with
  | nil => simp at h0
  | cons c r =>
    unfold nameL
    simp only [Bool.and_eq_true, decide_eq_true_eq, List.all_eq_true]
    refine ⟨h1, by simpa using hl, fun x hx => ?_⟩
    obtain ⟨i, hi, rfl⟩ := List.getElem_of_mem hx
    exact ha i hi
theorem nameL_long {s : List UInt8} (h : 16 < s.length) : nameL s = false := by
  unfold nameL
  rw [show decide (s.length ≤ 16) = false by simp; omega]; rfl

/-! quoting -/
def quoteC (c : UInt8) : List UInt8 := if c.toNat = 34 then [92, 34] else if c.toNat = 92 then [92, 92] else if c.toNat = 10 then [92, 110] else [c]
def quoteB (s : List UInt8) : List UInt8 := s.flatMap quoteC
def quoteL (s : List UInt8) : List UInt8 := 34 :: (quoteB s ++ [34])
theorem quoteB_append (a b : List UInt8) : quoteB (a ++ b) = quoteB a ++ quoteB b := by simp [quoteB]
theorem quoteB_one (c : UInt8) : quoteB [c] = quoteC c := by simp [quoteB]
theorem quoteB_cons (c : UInt8) (r : List UInt8) : quoteB (c :: r) = quoteC c ++ quoteB r := by simp [quoteB]
theorem quoteB_take (s : List UInt8) (i : Nat) (h : i < s.length) : quoteB (s.take (i + 1)) = quoteB (s.take i) ++ quoteC s[i] := by
  rw [List.take_succ_eq_append_getElem h, quoteB_append, quoteB_one]
theorem quoteC_len (c : UInt8) : (quoteC c).length ≤ 2 := by unfold quoteC; (repeat' split) <;> simp
theorem quoteC_pos (c : UInt8) : 1 ≤ (quoteC c).length := by unfold quoteC; (repeat' split) <;> simp
theorem quoteB_len (s : List UInt8) : (quoteB s).length ≤ 2 * s.length := by
  induction s with
  | nil => simp [quoteB]
  | cons c r ih => rw [quoteB_cons, List.length_append, List.length_cons]; have := quoteC_len c; omega
theorem quoteL_len (s : List UInt8) : (quoteL s).length ≤ 2 * s.length + 2 := by have := quoteB_len s; simp [quoteL]; omega
theorem quoteC_10 (c : UInt8) : ∀ x ∈ quoteC c, x.toNat ≠ 10 := by
  unfold quoteC; intro x hx
  split at hx
  · simp at hx; rcases hx with rfl | rfl <;> decide
  · split at hx
    · simp at hx; subst hx; decide
    · split at hx
      · simp at hx; rcases hx with rfl | rfl <;> decide
      · simp at hx; subst hx; assumption
theorem quoteL_10 (s : List UInt8) : ∀ x ∈ quoteL s, x.toNat ≠ 10 := by
  intro x hx
  unfold quoteL quoteB at hx
  simp only [List.mem_cons, List.mem_append, List.mem_flatMap, List.not_mem_nil, or_false] at hx
  rcases hx with rfl | ⟨c, _, hc⟩ | rfl
  · decide
  · exact quoteC_10 c x hc
  · decide

/-- What a quoted text's inside says, and what stands behind its end. -/
def scan : List UInt8 → Option (List UInt8 × List UInt8)
  | [] => none
  | [c] => if c.toNat = 34 then some ([], []) else none
  | c :: d :: r => if c.toNat = 34 then some ([], d :: r)
    else if c.toNat = 92 then (match scan r with | some (v, b) => some ((if d.toNat = 110 then 10 else d) :: v, b) | none => none)
    else (match scan (d :: r) with | some (v, b) => some (c :: v, b) | none => none)
theorem scan_end (c : UInt8) (r : List UInt8) (h : c.toNat = 34) : scan (c :: r) = some ([], r) := by
  cases r <;> simp [scan, h]
theorem scan_plain (c : UInt8) (r : List UInt8) (h : c.toNat ≠ 34) (h2 : c.toNat ≠ 92) : scan (c :: r) = (match scan r with | some (v, b) => some (c :: v, b) | none => none) := by
  cases r <;> simp [scan, h, h2]
theorem scan_esc (c d : UInt8) (r : List UInt8) (h2 : c.toNat = 92) : scan (c :: d :: r) = (match scan r with | some (v, b) => some ((if d.toNat = 110 then 10 else d) :: v, b) | none => none) := by
  simp [scan, h2]
theorem scan_cut (c : UInt8) (h2 : c.toNat = 92) : scan [c] = none := by simp [scan, h2]
theorem u8_eq {a b : UInt8} (h : a.toNat = b.toNat) : a = b := UInt8.toNat_inj.1 h
theorem scan_quote (v r : List UInt8) : scan (quoteB v ++ 34 :: r) = some (v, r) := by
  induction v with
  | nil => exact scan_end 34 r rfl
  | cons c v ih =>
    rw [quoteB_cons, List.append_assoc]
    unfold quoteC
    split
    · rename_i h
      simp only [List.cons_append, List.nil_append]
      rw [scan_esc 92 34 _ rfl, ih]
      have : c = 34 := u8_eq h
      subst this; rfl
    · rename_i h
      split
      · rename_i h2
        simp only [List.cons_append, List.nil_append]
        rw [scan_esc 92 92 _ rfl, ih]
        have : c = 92 := u8_eq h2
        subst this; rfl
      · rename_i h2
        split
        · rename_i h3
          simp only [List.cons_append, List.nil_append]
          rw [scan_esc 92 110 _ rfl, ih]
          have : c = 10 := u8_eq h3
          subst this; rfl
        · simp only [List.cons_append, List.nil_append]
          rw [scan_plain c _ h h2, ih]
theorem quoteL_inj {a b : List UInt8} (h : quoteL a = quoteL b) : a = b := by
  unfold quoteL at h
  injection h with _ h
  have h1 := scan_quote a []
  have h2 := scan_quote b []
  rw [h] at h1
  rw [h1] at h2
  injection h2 with h2; injection h2
theorem scan_len : ∀ (n : Nat) (s v b : List UInt8), s.length ≤ n → scan s = some (v, b) → b.length < s.length ∧ v.length < s.length
  | _, [], v, b, _, h => by simp [scan] at h
  | 0, c :: r, v, b, hn, h => by simp at hn
  | n + 1, c :: r, v, b, hn, h => by
    by_cases h1 : c.toNat = 34
    · rw [scan_end c r h1] at h; injection h with h; injection h with h2 h3; subst h2 h3; simp
    · by_cases h2 : c.toNat = 92
      · cases r with
        | nil => rw [scan_cut c h2] at h; cases h
        | cons d r =>
          rw [scan_esc c d r h2] at h
          cases hs : scan r with
          | none => rw [hs] at h; cases h
          | some x =>
            obtain ⟨v', b'⟩ := x
            rw [hs] at h
            injection h with h; injection h with h3 h4
            have := scan_len n r v' b' (by simp at hn; omega) hs
            subst h3 h4; simp; omega
      · rw [scan_plain c r h1 h2] at h
        cases hs : scan r with
        | none => rw [hs] at h; cases h
        | some x =>
          obtain ⟨v', b'⟩ := x
          rw [hs] at h
          injection h with h; injection h with h3 h4
          have := scan_len n r v' b' (by simp at hn; omega) hs
          subst h3 h4; simp; omega

/-- What the document's Quoted answers. -/
def quotedL (s : List UInt8) : List UInt8 × Nat := match s with
  | [] => ([], 0)
  | c :: r => if c.toNat = 34 then (match scan r with | some (v, b) => (v, s.length - b.length) | none => ([], 0)) else ([], 0)
def pre (acc : List UInt8) (o : Option (List UInt8 × List UInt8)) : Option (List UInt8 × List UInt8) := match o with | some (v, b) => some (acc ++ v, b) | none => none
theorem pre_nil (o : Option (List UInt8 × List UInt8)) : pre [] o = o := by cases o <;> simp [pre]
theorem pre_end {s acc : List UInt8} {i : Nat} (h : i < s.length) (hc : (s[i]).toNat = 34) : pre acc (scan (s.drop i)) = some (acc, s.drop (i + 1)) := by
  rw [List.drop_eq_getElem_cons h, scan_end _ _ hc]; simp [pre]
theorem pre_plain {s acc : List UInt8} {i : Nat} (h : i < s.length) (h1 : (s[i]).toNat ≠ 34) (h2 : (s[i]).toNat ≠ 92) : pre acc (scan (s.drop i)) = pre (acc ++ [s[i]]) (scan (s.drop (i + 1))) := by
  rw [List.drop_eq_getElem_cons h, scan_plain _ _ h1 h2]
  cases scan (s.drop (i + 1)) <;> simp [pre]
theorem pre_cut {s acc : List UInt8} {i : Nat} (h : i + 1 = s.length) (h2 : (s[i]).toNat = 92) : pre acc (scan (s.drop i)) = none := by
  rw [List.drop_eq_getElem_cons (by omega), List.drop_eq_nil_of_le (by omega : s.length ≤ i + 1), scan_cut _ h2]; rfl
theorem pre_esc {s acc : List UInt8} {i : Nat} (h : i + 1 < s.length) (h2 : (s[i]).toNat = 92) : pre acc (scan (s.drop i)) = pre (acc ++ [if (s[i + 1]).toNat = 110 then 10 else s[i + 1]]) (scan (s.drop (i + 2))) := by
  rw [List.drop_eq_getElem_cons (by omega : i < s.length), List.drop_eq_getElem_cons h, scan_esc _ _ _ h2]
  cases scan (s.drop (i + 2)) <;> simp [pre]
theorem pre_none {s acc : List UInt8} : pre acc (scan (s.drop s.length)) = none := by simp [scan, pre]
theorem quotedL_some {s v b : List UInt8} (h0 : 0 < s.length) (hc : (s[0]).toNat = 34) (h : scan (s.drop 1) = some (v, b)) : quotedL s = (v, s.length - b.length) := by
  cases s with
  | nil => simp at h0
  | cons c r => simp at hc h; simp [quotedL, hc, h]
theorem quotedL_none {s : List UInt8} (h0 : 0 < s.length) (h : scan (s.drop 1) = none) : quotedL s = ([], 0) := by
  cases s with
  | nil => simp at h0
  | cons c r => simp at h; simp [quotedL, h]
theorem quotedL_not {s : List UInt8} (h0 : 0 < s.length) (hc : (s[0]).toNat ≠ 34) : quotedL s = ([], 0) := by
  cases s with
  | nil => simp at h0
  | cons c r => simp at hc; simp [quotedL, hc]
theorem quotedL_quote (v r : List UInt8) : quotedL (quoteL v ++ r) = (v, (quoteL v).length) := by
  have h := scan_quote v r
  have e : quoteL v ++ r = 34 :: (quoteB v ++ 34 :: r) := by simp [quoteL]
  rw [e]
  simp only [quotedL]
  rw [if_pos (by decide), h]
  simp [quoteL]
  omega
theorem take_one (s : List UInt8) (i : Nat) (h : i < s.length) : (s.drop i).take 1 = [s[i]] := by
  rw [List.drop_eq_getElem_cons h]; rfl

/-! texts in order -/
theorem less_trans_like (a b : List UInt8) : (!(Op.bytesLess a b || (a == b))) = Op.bytesLess b a := by
  induction a generalizing b with
  | nil => cases b <;> simp [Op.bytesLess]
  | cons x a ih =>
    cases b with
    | nil => simp [Op.bytesLess]
    | cons y b =>
      simp only [Op.bytesLess, List.cons_beq_cons]
      have ih' := ih b
      by_cases h : x = y
      · subst h
        have : (x < x) = False := by simp
        simp [this] at ih' ⊢
        exact ih'
      · have h1 : (x == y) = false := by simpa using h
        have h2 : (y == x) = false := by simpa using fun e => h e.symm
        rw [h1, h2]
        simp only [Bool.false_and, Bool.or_false]
        have e : decide (x < y) = !decide (y < x) := by
          rw [← decide_not]
          apply decide_eq_decide.2
          rw [UInt8.lt_iff_toNat_lt, UInt8.lt_iff_toNat_lt]
          have : x.toNat ≠ y.toNat := fun k => h (u8_eq k)
          omega
        rw [e, Bool.not_not]

theorem less_nil {a : List UInt8} (h : a ≠ []) : Op.bytesLess [] a = true := by cases a <;> simp_all [Op.bytesLess]
end Go.Proofs.YtopnnhjfcfhihaaDoor
