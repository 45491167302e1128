/-
  Layer 4 (label): a row of labels of the call's own, sorted in place: the comparison; two places changed; the insertion sort.
-/
import Derived.Test.YtopnnhjfcfhihaaLabelMem
import Derived.Test.YtopnnhjfcfhihaaLabelSort
import Derived.Test.YtopnnhjfcfhihaaHeld
namespace Go.Proofs.Ytopnnhjfcfhihaa
open Go.RowKit Go.Deep
attribute [local go_sem] str_size str_append str_toList str_get str_extract
set_option linter.unusedVariables false
set_option linter.unusedSimpArgs false
theorem cmpB_lt (a b : List UInt8) : (Lib.compareBytes a b < 0) ↔ Op.bytesLess a b = true := by
  induction a generalizing b with
  | nil => cases b <;> simp [Lib.compareBytes, Op.bytesLess]
  | cons x a ih =>
    cases b with
    | nil => simp [Lib.compareBytes, Op.bytesLess]
    | cons y b =>
      simp only [Lib.compareBytes, Op.bytesLess, Bool.or_eq_true, decide_eq_true_eq, Bool.and_eq_true, beq_iff_eq]
      by_cases h : x < y
      · simp [h]
      · by_cases h2 : y < x
        · have hne : x ≠ y := fun e => by subst e; exact h h2
          simp [h, h2, hne]
        · have he : x = y := u8_eq (by rw [UInt8.lt_iff_toNat_lt] at h h2; omega)
          subst he
          simp [ih]
def labV (x : Lab) : Value := .agg #[.string (str x.1), .string (str x.2)]
/-- What the comparison answers. -/
def cmpN (x y : Lab) : Int := Lib.compareBytes x.1 y.1
theorem cmpN_lt {x y : Lab} (h : ltN x y = true) : cmpN x y < 0 := (cmpB_lt _ _).2 h
theorem cmpN_ge {x y : Lab} (h : ltN x y = false) : ¬ cmpN x y < 0 := fun hh => by have := (cmpB_lt _ _).1 hh; unfold ltN at h; rw [h] at this; cases this
theorem cmp_c (x y : Lab) (w : World) : Calls Try.prog 20 #[.agg #[.string (str x.1), .string (str x.2)], .agg #[.string (str y.1), .string (str y.2)]] w fun e w' => e = .returned (.int .i64 (cmpN x y)) ∧ Below w.heap.size w w' := by
  have c1 := fun W => Try.strings_Compare (str x.1) (str y.1) W
  rw [str_data, str_data] at c1
  have e : Lib.compareBytes x.1 y.1 = cmpN x y := rfl
  rw [e] at c1
  clear e
  go_enter Try.func20, Try.ntmps20
  go_wp2_with (go_at_call 21; refine (c1 _).mono ?_; rintro e w1 ⟨rfl, rfl⟩)
  go_ret
  exact ⟨rfl, by repeat (first | exact Below.refl _ _ | (refine Below.alloc ?_ (by simp <;> omega) _))⟩
/-- Block g begins with the labels l. -/
def RowL (g : Nat) (l : List Lab) (w : World) : Prop := ∃ cur : Array Value, w.heap[g]? = some (.cells cur 39 (0, 0)) ∧ 2 * l.length ≤ cur.size ∧ ∀ i (h : i < l.length), cur[2 * i]? = some (.string (str l[i].1)) ∧ cur[2 * i + 1]? = some (.string (str l[i].2))
theorem RowL.below {g : Nat} {l : List Lab} {w w' : World} (h : RowL g l w) (hb : Below w.heap.size w w') : RowL g l w' := by
  obtain ⟨cur, h1, h2, h3⟩ := h
  exact ⟨cur, (hb.block g (lt_of_block h1)).trans h1, h2, h3⟩
theorem RowL.drew {g : Nat} {l : List Lab} {w : World} (h : RowL g l w) : RowL g l w.drew := h
theorem RowL.get {g : Nat} {D E : List Lab} {x : Lab} {w : World} (h : RowL g (D ++ x :: E) w) (k : Nat) (hk : k = D.length) :
    w.cell? ⟨g, k * 2, none⟩ = some (.string (str x.1)) ∧ w.cell? ⟨g, k * 2 + 1, none⟩ = some (.string (str x.2)) ∧ w.frozen? ⟨g, k * 2, none⟩ = false ∧ w.frozen? ⟨g, k * 2 + 1, none⟩ = false := by
  obtain ⟨cur, h1, h2, h3⟩ := h
  subst hk
  have := h3 D.length (by simp)
  simp at this
  refine ⟨?_, ?_, blk_free h1 _, blk_free h1 _⟩
  · rw [blk_cell h1, Nat.mul_comm]; exact this.1
  · rw [blk_cell h1, Nat.mul_comm]; exact this.2
theorem RowL.put {g : Nat} {D E : List Lab} {x : Lab} {w : World} (h : RowL g (D ++ x :: E) w) (z : Lab) (k : Nat) (hk : k = D.length) :
    RowL g (D ++ z :: E) ((w.setCell ⟨g, k * 2, none⟩ (.string (str z.1))).setCell ⟨g, k * 2 + 1, none⟩ (.string (str z.2))) := by
  obtain ⟨cur, h1, h2, h3⟩ := h
  subst hk
  have e1 := blk_set h1 (D.length * 2) (.string (str z.1))
  have e2 := blk_set e1 (D.length * 2 + 1) (.string (str z.2))
  refine ⟨_, e2, by simpa using h2, fun i hi => ?_⟩
  have hi' : i < (D ++ x :: E).length := by simpa using hi
  have hh := h3 i hi'
  simp only [Array.getElem?_setIfInBounds, Array.size_setIfInBounds]
  simp at h2
  by_cases hd : i = D.length
  · subst hd
    rw [if_neg (by omega), if_pos (by omega), if_pos (by omega), if_pos (by omega), if_pos (by omega)]
    simp
  · rw [if_neg (by omega), if_neg (by omega), if_neg (by omega), if_neg (by omega)]
    have e : (D ++ z :: E)[i] = (D ++ x :: E)[i] := by
      by_cases hl : i < D.length
      · rw [List.getElem_append_left hl, List.getElem_append_left hl]
      · obtain ⟨j, rfl⟩ : ∃ j, i = D.length + (j + 1) := ⟨i - D.length - 1, by omega⟩
        rw [List.getElem_append_right (by omega), List.getElem_append_right (by omega)]
        simp
    rw [e]; exact hh
end Go.Proofs.Ytopnnhjfcfhihaa
