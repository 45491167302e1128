/-
  Texts of the same seat, one behind the other (merged; each says at its head what it is).
-/
import Derived.Test.YtdbifbgjbfnfmaaGreatDoorM01
import Derived.Test.YtdbifbgjbfnfmaaGreatDoorM05
import Derived.Test.YtdbifbgjbfnfmaaGreatDoorRows
import Derived.Outline
import Derived.Deep.OwnRows
import Derived.BigQuiet
import Derived.Deep.QuietTactic
import Derived.Deep.RegionWith
import Derived.Laws.ResultCell
import Derived.Deep.RegionHeld3
/-
  Layer 7 (index): texts that rise, each once; names and values of series, plain. No program is named.
-/
namespace Go.Proofs.YtdbifbgjbfnfmaaGreatDoor
set_option linter.unusedVariables false
set_option linter.unusedSimpArgs false
abbrev Txt := List UInt8
abbrev Lt (a b : Txt) : Prop := Op.bytesLess a b = true
abbrev UpT (l : List Txt) : Prop := l.Pairwise Lt
theorem lt_tri (a b : Txt) : Lt a b ∨ a = b ∨ Lt b a := by
  have h := less_trans_like a b
  by_cases h1 : Op.bytesLess a b = true
  · exact .inl h1
  · by_cases h2 : a = b
    · exact .inr (.inl h2)
    · right; right
      show Op.bytesLess b a = true
      rw [← h, Bool.eq_false_iff.2 h1]
      simp [h2]
theorem lt_not {a b : Txt} (h : Lt a b) : ¬ Lt b a := fun k => by
  have := bl_trans h k
  rw [bl_irrefl] at this
  cases this
theorem lt_ne {a b : Txt} (h : Lt a b) : a ≠ b := by
  rintro rfl
  have k : Op.bytesLess a a = true := h
  rw [bl_irrefl] at k
  cases k
/-- Texts that rise and are the same set are the same. -/
theorem upT_ext : ∀ {a b : List Txt}, UpT a → UpT b → (∀ x, x ∈ a ↔ x ∈ b) → a = b := by
  intro a
  induction a with
  | nil => intro b _ _ h; match b with
    | [] => rfl
    | y :: b => have := (h y).2 (by simp); simp at this
  | cons x a ih =>
    intro b ha hb h
    match b with
    | [] => have := (h x).1 (by simp); simp at this
    | y :: b =>
      rw [UpT, List.pairwise_cons] at ha hb
      have hxy : x = y := by
        have h1 := (h x).1 (by simp)
        have h2 := (h y).2 (by simp)
        rcases List.mem_cons.1 h1 with e | h1
        · exact e
        · rcases List.mem_cons.1 h2 with e | h2
          · exact e.symm
          · exact absurd (hb.1 x h1) (lt_not (ha.1 y h2))
      subst hxy
      rw [ih ha.2 hb.2 fun z => ?_]
      have h0 := h z
      have h3 : x ∉ a := fun hm => lt_ne (ha.1 x hm) rfl
      have h4 : x ∉ b := fun hm => lt_ne (hb.1 x hm) rfl
      by_cases e : z = x
      · subst e; simp [h3, h4]
      · simpa [e] using h0
/-- A text put among others that rise. -/
def putT : List Txt → Txt → List Txt
  | [], s => [s]
  | x :: r, s => if x = s then x :: r else if Op.bytesLess s x = true then s :: x :: r else x :: putT r s
theorem mem_putT (l : List Txt) (s : Txt) : ∀ x, x ∈ putT l s ↔ x = s ∨ x ∈ l := by
  induction l with
  | nil => intro x; simp [putT]
  | cons y r ih =>
    intro x
    unfold putT
    split
    · rename_i h; subst h; simp
    · split
      · simp
      · rw [List.mem_cons, ih]; simp only [List.mem_cons]; constructor
        · rintro (h | h | h) <;> simp [h]
        · rintro (h | h | h) <;> simp [h]
theorem up_putT (l : List Txt) (s : Txt) : UpT l → UpT (putT l s) := by
  induction l with
  | nil => intro _; simp [putT]
  | cons y r ih =>
    intro h
    have h0 := h
    rw [UpT, List.pairwise_cons] at h
    unfold putT
    split
    · exact h0
    · rename_i hne
      split
      · rename_i hlt
        rw [UpT, List.pairwise_cons]
        refine ⟨fun z hz => ?_, h0⟩
        rcases List.mem_cons.1 hz with rfl | hz
        · exact hlt
        · exact bl_trans hlt (h.1 z hz)
      · rename_i hlt
        rw [UpT, List.pairwise_cons]
        refine ⟨fun z hz => ?_, ih h.2⟩
        rcases (mem_putT r s z).1 hz with rfl | hz
        · rcases lt_tri y z with k | k | k
          · exact k
          · exact absurd k hne
          · exact absurd k hlt
        · exact h.1 z hz
theorem len_putT (l : List Txt) (s : Txt) : (putT l s).length ≤ l.length + 1 := by
  induction l with
  | nil => simp [putT]
  | cons y r ih => unfold putT; split
                   · simp
                   · split
                     · simp
                     · simp; omega
theorem putT_here {l : List Txt} {s : Txt} (hl : UpT l) (hs : s ∈ l) : putT l s = l := by
  refine upT_ext (up_putT _ _ hl) hl fun x => ?_
  rw [mem_putT]
  exact ⟨fun h => h.elim (fun e => e ▸ hs) id, .inr⟩
/-- s stands ahead of all that is left. -/
theorem putT_low {l : List Txt} {s : Txt} (hl : ∀ x ∈ l, Lt s x) : putT l s = s :: l := by
  cases l with
  | nil => rfl
  | cons y r =>
    have h := hl y (by simp)
    unfold putT
    rw [if_neg (lt_ne h).symm, if_pos h]
theorem putT_far {l r : List Txt} {s : Txt} (hl : ∀ x ∈ l, Lt x s) : putT (l ++ r) s = l ++ putT r s := by
  induction l with
  | nil => rfl
  | cons y l ih =>
    have h := hl y (by simp)
    rw [List.cons_append, putT, if_neg (lt_ne h), if_neg (lt_not h), ih (fun x hx => hl x (by simp [hx])), List.cons_append]
/-! names and values -/
def IsNames (X : Ix) (R : List Txt) : Prop := UpT R ∧ ∀ n, n ∈ R ↔ ∃ l ∈ X, ∃ x ∈ l, x.1 = n
def IsValues (X : Ix) (name : Txt) (R : List Txt) : Prop := UpT R ∧ ∀ v, v ∈ R ↔ v ≠ [] ∧ ∃ l ∈ X, getL l name = v
theorem IsNames.one {X : Ix} {R S : List Txt} (h : IsNames X R) (k : IsNames X S) : R = S := upT_ext h.1 k.1 fun x => by rw [h.2, k.2]
theorem IsValues.one {X : Ix} {name : Txt} {R S : List Txt} (h : IsValues X name R) (k : IsValues X name S) : R = S := upT_ext h.1 k.1 fun x => by rw [h.2, k.2]
/-- The names of series ahead of i, and of the first k labels of the i-th. -/
def names1 (acc : List Txt) (l : List Lab) : List Txt := l.foldl (fun a x => putT a x.1) acc
def namesX (X : Ix) : List Txt := X.foldl names1 []
theorem names1_take (acc : List Txt) (l : List Lab) (k : Nat) (h : k < l.length) : names1 acc (l.take (k + 1)) = putT (names1 acc (l.take k)) l[k].1 := by
  unfold names1; rw [List.take_succ_eq_append_getElem h, List.foldl_append]; rfl
theorem namesX_take (X : Ix) (i : Nat) (h : i < X.length) : namesX (X.take (i + 1)) = names1 (namesX (X.take i)) X[i] := by
  unfold namesX; rw [List.take_succ_eq_append_getElem h, List.foldl_append]; rfl
theorem names1_is (l : List Lab) : ∀ acc, UpT acc → UpT (names1 acc l) ∧ (∀ n, n ∈ names1 acc l ↔ n ∈ acc ∨ ∃ x ∈ l, x.1 = n) ∧ (names1 acc l).length ≤ acc.length + l.length := by
  induction l with
  | nil => intro acc h; exact ⟨h, fun n => by simp [names1], by simp [names1]⟩
  | cons x l ih =>
    intro acc h
    have := ih (putT acc x.1) (up_putT _ _ h)
    have hl := len_putT acc x.1
    refine ⟨this.1, fun n => ?_, ?_⟩
    · have h2 := this.2.1 n
      unfold names1 at h2 ⊢
      rw [List.foldl_cons, h2, mem_putT]
      simp only [List.mem_cons, exists_eq_or_imp]
      grind
    · have h3 := this.2.2
      unfold names1 at h3 ⊢
      rw [List.foldl_cons, List.length_cons]
      omega
theorem namesX_is (X : Ix) (h8 : ∀ l ∈ X, l.length ≤ 8) : IsNames X (namesX X) ∧ (namesX X).length ≤ 8 * X.length := by
  have key : ∀ (Y : Ix) acc, UpT acc → (∀ l ∈ Y, l.length ≤ 8) → UpT (Y.foldl names1 acc) ∧ (∀ n, n ∈ Y.foldl names1 acc ↔ n ∈ acc ∨ ∃ l ∈ Y, ∃ x ∈ l, x.1 = n) ∧ (Y.foldl names1 acc).length ≤ acc.length + 8 * Y.length := by
    intro Y
    induction Y with
    | nil => intro acc h _; exact ⟨h, fun n => by simp, by simp⟩
    | cons l Y ih =>
      intro acc h h8
      have h1 := names1_is l acc h
      have h2 := ih (names1 acc l) h1.1 (fun m hm => h8 m (by simp [hm]))
      have h3 := h8 l (by simp)
      refine ⟨h2.1, fun n => ?_, ?_⟩
      · rw [List.foldl_cons, h2.2.1, h1.2.1]
        simp only [List.mem_cons, exists_eq_or_imp, or_assoc]
      · have := h2.2.2
        have := h1.2.2
        rw [List.foldl_cons, List.length_cons]
        omega
  have := key X [] (by simp) h8
  exact ⟨⟨this.1, fun n => by rw [namesX, this.2.1]; simp⟩, by simpa [namesX] using this.2.2⟩
def val1 (name : Txt) (acc : List Txt) (l : List Lab) : List Txt := if getL l name = [] then acc else putT acc (getL l name)
def valuesX (X : Ix) (name : Txt) : List Txt := X.foldl (val1 name) []
theorem valuesX_take (X : Ix) (name : Txt) (i : Nat) (h : i < X.length) : valuesX (X.take (i + 1)) name = val1 name (valuesX (X.take i) name) X[i] := by
  unfold valuesX; rw [List.take_succ_eq_append_getElem h, List.foldl_append]; rfl
theorem valuesX_is (X : Ix) (name : Txt) : IsValues X name (valuesX X name) ∧ (valuesX X name).length ≤ X.length := by
  have key : ∀ (Y : Ix) acc, UpT acc → UpT (Y.foldl (val1 name) acc) ∧ (∀ v, v ∈ Y.foldl (val1 name) acc ↔ v ∈ acc ∨ (v ≠ [] ∧ ∃ l ∈ Y, getL l name = v)) ∧ (Y.foldl (val1 name) acc).length ≤ acc.length + Y.length := by
    intro Y
    induction Y with
    | nil => intro acc h; exact ⟨h, fun n => by simp, by simp⟩
    | cons l Y ih =>
      intro acc h
      have h1 : UpT (val1 name acc l) ∧ (∀ v, v ∈ val1 name acc l ↔ v ∈ acc ∨ (v ≠ [] ∧ getL l name = v)) ∧ (val1 name acc l).length ≤ acc.length + 1 := by
        unfold val1
        split
        · rename_i e
          exact ⟨h, fun v => by rw [e]; constructor
                                · exact .inl
                                · rintro (h | ⟨h1, h2⟩)
                                  · exact h
                                  · exact absurd h2.symm h1, by omega⟩
        · rename_i e
          refine ⟨up_putT _ _ h, fun v => ?_, len_putT _ _⟩
          rw [mem_putT]
          constructor
          · rintro (rfl | h)
            · exact .inr ⟨e, rfl⟩
            · exact .inl h
          · rintro (h | ⟨_, rfl⟩)
            · exact .inr h
            · exact .inl rfl
      have h2 := ih (val1 name acc l) h1.1
      refine ⟨h2.1, fun n => ?_, ?_⟩
      · rw [List.foldl_cons, h2.2.1, h1.2.1]
        simp only [List.mem_cons, exists_eq_or_imp]
        grind
      · have := h2.2.2
        have := h1.2.2
        rw [List.foldl_cons, List.length_cons]
        omega
  have := key X [] (by simp)
  exact ⟨⟨this.1, fun n => by rw [valuesX, this.2.1]; simp⟩, by simpa [valuesX] using this.2.2⟩
end Go.Proofs.YtdbifbgjbfnfmaaGreatDoor
/-
  Layer 7 (index): what bytes are an index's, plain. No program is named.
-/
namespace Go.Proofs.YtdbifbgjbfnfmaaGreatDoor
set_option linter.unusedVariables false
set_option linter.unusedSimpArgs false
/-- An integer's bytes, at any place. -/
theorem getU_at {l : List UInt8} {a : Nat} {v nx : Int} (h : getU l a = (v, nx, 0)) : ∃ n k : Nat, v = n ∧ nx = k ∧ a ≤ k ∧ k ≤ l.length ∧ n < 18446744073709551616 ∧ l.take k = l.take a ++ uv n := by
  have hr := getU_range h
  unfold getU at h
  rw [Int.toNat_natCast] at h
  split at h
  · simp at h
  · split at h
    · simp at h
    · split at h
      · simp at h
      · split at h
        · rename_i hc
          simp only [Prod.mk.injEq, and_true] at h
          refine ⟨val ((l.drop a).take (lead (l.drop a) + 1)), a + (lead (l.drop a) + 1), h.1.symm, by omega, by omega, by omega, hc.1, ?_⟩
          rw [hc.2, List.take_add]
        · simp at h
theorem getT_at {l : List UInt8} {a : Nat} {t : List UInt8} {nx : Int} (h : getT l a = (t, nx, 0)) : ∃ k : Nat, nx = k ∧ a ≤ k ∧ k ≤ l.length ∧ l.take k = l.take a ++ tx t := by
  unfold getT at h
  split at h
  · rename_i h0
    obtain ⟨v, nx', er, hu⟩ : ∃ v nx' er, getU l a = (v, nx', er) := ⟨_, _, _, rfl⟩
    rw [hu] at h h0
    simp only at h h0
    subst h0
    obtain ⟨n, k, rfl, rfl, h1, h2, h3, h4⟩ := getU_at hu
    split at h
    · simp at h
    · rename_i hlt
      simp only [Prod.mk.injEq, and_true] at h
      simp only [Int.toNat_natCast] at h
      obtain ⟨ht, hx⟩ := h
      have hlen : t.length = n := by rw [← ht, List.length_take, List.length_drop]; omega
      refine ⟨k + n, by omega, by omega, by omega, ?_⟩
      rw [List.take_add, h4, ht, tx, hlen, List.append_assoc]
  · rename_i h0
    simp only [Prod.mk.injEq] at h
    exact absurd h.2.2 h0
def encB (X : Ix) : List UInt8 := X.flatMap fun l => tx (printL l)
def encX (X : Ix) : List UInt8 := uv X.length ++ encB X
theorem encB_take (X : Ix) (i : Nat) (h : i < X.length) : encB (X.take (i + 1)) = encB (X.take i) ++ tx (printL X[i]) := by
  unfold encB; rw [List.take_succ_eq_append_getElem h, List.flatMap_append]; simp
theorem encB_snoc (X : Ix) (l : List Lab) : encB (X ++ [l]) = encB X ++ tx (printL l) := by simp [encB]
theorem encB_append (X Y : Ix) : encB (X ++ Y) = encB X ++ encB Y := by simp [encB]
theorem encB_len {X : Ix} (h : ∀ l ∈ X, okL l = true) : (encB X).length ≤ 710 * X.length := by
  induction X with
  | nil => simp [encB]
  | cons l X ih =>
    have h1 := ih (fun m hm => h m (by simp [hm]))
    have h2 := printL_len (h l (by simp))
    have h3 := tx_len (printL l) (by omega)
    simp only [encB, List.flatMap_cons, List.length_append, List.length_cons] at h1 ⊢
    omega
theorem encX_len {X : Ix} (h : Good X) : (encX X).length ≤ 150000 := by
  have h1 := encB_len h.ok
  have h2 := h.few
  have h3 := uv_len10 (n := X.length) (by omega)
  unfold encX; rw [List.length_append]; omega
theorem encB_pre : ∀ {Y X : Ix} {r : List UInt8}, (∀ l ∈ X, okL l = true) → (∀ l ∈ Y, okL l = true) → Y.length ≤ X.length → encB X = encB Y ++ r → ∃ Z, X = Y ++ Z ∧ r = encB Z := by
  intro Y
  induction Y with
  | nil => intro X r _ _ _ h; exact ⟨X, rfl, by simpa [encB] using h.symm⟩
  | cons m Y ih =>
    intro X r hX hY hl h
    match X with
    | [] => simp at hl
    | l :: X =>
      simp only [encB, List.flatMap_cons, List.append_assoc] at h
      have h1 := printL_len (hX l (by simp))
      have h2 := printL_len (hY m (by simp))
      obtain ⟨h3, h4⟩ := tx_inj (by omega) (by omega) h
      have h5 := printL_inj (hX l (by simp)) (hY m (by simp)) h3
      subst h5
      obtain ⟨Z, rfl, h6⟩ := ih (fun l hl => hX l (by simp [hl])) (fun l hl => hY l (by simp [hl])) (by simpa using hl) h4
      exact ⟨Z, rfl, h6⟩
/-- What has been read of s: n, and the series Y, up to k. -/
structure Read (s : List UInt8) (n k : Nat) (Y : Ix) : Prop where
  good : Good Y
  few : Y.length ≤ n
  n200 : n ≤ 200
  le : k ≤ s.length
  is : s.take k = uv n ++ encB Y
/-- An index whose bytes are s goes on as has been read. -/
theorem Read.more {s : List UInt8} {n k : Nat} {Y : Ix} (h : Read s n k Y) {X : Ix} (hX : Good X) (he : encX X = s) : X.length = n ∧ ∃ Z, X = Y ++ Z ∧ s.drop k = encB Z := by
  have hs : uv X.length ++ encB X = uv n ++ (encB Y ++ s.drop k) := by
    rw [← List.append_assoc, ← h.is, List.take_append_drop]; exact he
  have g1 := getU_uv [] (encB X) X.length (by have := hX.few; omega)
  have g2 := getU_uv [] (encB Y ++ s.drop k) n (by have := h.n200; omega)
  simp only [List.nil_append] at g1 g2
  rw [hs, g2] at g1
  have hn : X.length = n := by simp only [Prod.mk.injEq] at g1; omega
  refine ⟨hn, ?_⟩
  rw [hn] at hs
  have hs := List.append_cancel_left hs
  exact encB_pre hX.ok h.good.ok (by have := h.few; omega) hs
noncomputable def decX (s : List UInt8) : Option Ix := open Classical in if h : ∃ X, Good X ∧ encX X = s then some h.choose else none
theorem encX_inj {X Y : Ix} (hX : Good X) (hY : Good Y) (h : encX X = encX Y) : X = Y := by
  have hR : Read (encX Y) Y.length (encX Y).length Y := ⟨hY, Nat.le_refl _, hY.few, Nat.le_refl _, by rw [List.take_length]; rfl⟩
  obtain ⟨h1, Z, rfl, h3⟩ := hR.more hX h
  have : Z = [] := by rw [List.length_append] at h1; exact List.length_eq_zero_iff.1 (by omega)
  subst this
  exact List.append_nil _
theorem decX_some {s : List UInt8} {X : Ix} (h1 : Good X) (h2 : encX X = s) : decX s = some X := by
  unfold decX
  rw [dif_pos ⟨X, h1, h2⟩]
  have h := (⟨X, h1, h2⟩ : ∃ X, Good X ∧ encX X = s).choose_spec
  rw [encX_inj h.1 h1 (h.2.trans h2.symm)]
theorem decX_none {s : List UInt8} (h : ∀ X, Good X → encX X ≠ s) : decX s = none := by
  unfold decX
  rw [dif_neg (fun ⟨X, h1, h2⟩ => h X h1 h2)]
theorem decX_of {s : List UInt8} {X : Ix} (h : decX s = some X) : Good X ∧ encX X = s := by
  unfold decX at h
  split at h
  · rename_i hh; injection h with h; rw [← h]; exact hh.choose_spec
  · cases h
/-! the steps of reading -/
theorem read_head_bad {s : List UInt8} {v nx er : Int} (h : getU s 0 = (v, nx, er)) (hb : er ≠ 0 ∨ 200 < v) : decX s = none := by
  refine decX_none fun X hX he => ?_
  have g := getU_uv [] (encB X) X.length (by have := hX.few; omega)
  simp only [List.nil_append, List.length_nil] at g
  have e : uv X.length ++ encB X = s := he
  rw [e] at g
  have h2 : getU s 0 = ((X.length : Int), (0 + (uv X.length).length : Int), 0) := g
  rw [h] at h2
  simp only [Prod.mk.injEq] at h2
  have := hX.few
  omega
theorem read_head {s : List UInt8} {v nx : Int} (h : getU s 0 = (v, nx, 0)) (hv : ¬ 200 < v) : ∃ n k : Nat, v = n ∧ nx = k ∧ Read s n k [] := by
  obtain ⟨n, k, rfl, rfl, _, h2, _, h4⟩ := getU_at (a := 0) h
  exact ⟨n, k, rfl, rfl, Good.nil, Nat.zero_le _, by omega, h2, by rw [h4]; simp [encB]⟩
theorem Read.text {s : List UInt8} {n k : Nat} {Y : Ix} (h : Read s n k Y) (hi : Y.length < n) {X : Ix} (hX : Good X) (he : encX X = s) : ∃ l, okL l = true ∧ l ∉ Y ∧ getT s k = (printL l, (k + (tx (printL l)).length : Int), 0) := by
  obtain ⟨h1, Z, h2, h3⟩ := h.more hX he
  match Z, h2, h3 with
  | [], h2, _ => rw [h2, List.append_nil] at h1; omega
  | l :: Z, h2, h3 =>
    have hok : okL l = true := hX.ok l (by rw [h2]; simp)
    have hlen := printL_len hok
    refine ⟨l, hok, fun hm => ?_, ?_⟩
    · have hn := hX.once
      rw [h2, List.nodup_append] at hn
      exact hn.2.2 l hm l (by simp) rfl
    · have g := getT_tx (s.take k) (encB Z) (printL l) (by omega)
      have e : s.take k ++ (tx (printL l) ++ encB Z) = s := by
        have : tx (printL l) ++ encB Z = s.drop k := by rw [h3]; simp [encB]
        rw [this, List.take_append_drop]
      rw [e, List.length_take, Nat.min_eq_left h.le] at g
      exact g
theorem Read.bad_text {s : List UInt8} {n k : Nat} {Y : Ix} (h : Read s n k Y) (hi : Y.length < n) {t : List UInt8} {nx er : Int} (hg : getT s k = (t, nx, er)) (he : er ≠ 0) : decX s = none :=
  decX_none fun X hX e => by
    obtain ⟨l, _, _, g⟩ := h.text hi hX e
    rw [hg] at g
    simp only [Prod.mk.injEq] at g
    exact he g.2.2
theorem Read.bad_labels {s : List UInt8} {n k : Nat} {Y : Ix} (h : Read s n k Y) (hi : Y.length < n) {t : List UInt8} {nx : Int} (hg : getT s k = (t, nx, 0)) (he : parseL t = none) : decX s = none :=
  decX_none fun X hX e => by
    obtain ⟨l, hok, _, g⟩ := h.text hi hX e
    rw [hg] at g
    simp only [Prod.mk.injEq] at g
    rw [parseL_some hok g.1.symm] at he
    cases he
theorem Read.twice {s : List UInt8} {n k : Nat} {Y : Ix} (h : Read s n k Y) (hi : Y.length < n) {t : List UInt8} {nx : Int} (hg : getT s k = (t, nx, 0)) {m : List Lab} (hp : parseL t = some m) (hm : m ∈ Y) : decX s = none :=
  decX_none fun X hX e => by
    obtain ⟨l, hok, hn, g⟩ := h.text hi hX e
    rw [hg] at g
    simp only [Prod.mk.injEq] at g
    have := parseL_some hok g.1.symm
    rw [hp] at this
    injection this with this
    subst this
    exact hn hm
theorem Read.next {s : List UInt8} {n k : Nat} {Y : Ix} (h : Read s n k Y) (hi : Y.length < n) {t : List UInt8} {nx : Int} (hg : getT s k = (t, nx, 0)) {m : List Lab} (hp : parseL t = some m) (hm : m ∉ Y) : ∃ q : Nat, nx = q ∧ Read s n q (Y ++ [m]) := by
  obtain ⟨q, rfl, h1, h2, h3⟩ := getT_at hg
  have hpp := parseL_of hp
  have hadd : addX Y m = Y ++ [m] := if_pos ⟨hpp.1, hm, by have := h.n200; omega⟩
  refine ⟨q, rfl, ?_, by simp; omega, h.n200, h2, ?_⟩
  · rw [← hadd]; exact h.good.add m
  · rw [h3, h.is, encB_snoc, hpp.2, List.append_assoc]
theorem Read.last_bad {s : List UInt8} {n k : Nat} {Y : Ix} (h : Read s n k Y) (hi : Y.length = n) (hk : k ≠ s.length) : decX s = none :=
  decX_none fun X hX e => by
    obtain ⟨h1, Z, h2, h3⟩ := h.more hX e
    have hz : Z = [] := by rw [h2, List.length_append] at h1; exact List.length_eq_zero_iff.1 (by omega)
    subst hz
    have h4 := congrArg List.length h3
    rw [List.length_drop] at h4
    simp [encB] at h4
    have := h.le
    omega
theorem Read.last {s : List UInt8} {n : Nat} {Y : Ix} (h : Read s n s.length Y) (hi : Y.length = n) : decX s = some Y := by
  refine decX_some h.good ?_
  have := h.is
  rw [List.take_length] at this
  rw [this, ← hi]; rfl
end Go.Proofs.YtdbifbgjbfnfmaaGreatDoor
/-
  Layer 1 (zig): what each call of the program, and of the document's own answer, returns; all that was in memory stays.
-/
namespace Go.Proofs.YtdbifbgjbfnfmaaGreatDoor
open Go.RowKit Go.Deep
attribute [local go_sem] str_size str_append str_toList str_get str_extract

theorem groups_c (n : Nat) (w : World) (h : n < 18446744073709551616) : Calls Tryz.prog 93 #[.int .u64 n] w fun e w' => e = .returned (.int .i64 (uv n).length) ∧ w = w' := by
  have hb : bits .or .u64 (n : Int) 1 = ((n ||| 1 : Nat) : Int) := u64_or_nat n 1 h (by omega)
  have e := or_one n
  have hg := groups_eq n h
  have hle := Lib.bitLen_le (n ||| 1) 64 (by omega) (by omega)
  obtain ⟨m, hm⟩ : ∃ m, m = (n ||| 1) := ⟨_, rfl⟩
  rw [← hm] at hb hg hle e
  have hm1 : m < 18446744073709551616 := by omega
  obtain ⟨k, hk⟩ : ∃ k, k = Lib.bitLen m := ⟨_, rfl⟩
  rw [← hk] at hg hle
  have HK := Lib.hid hk
  have HG := Lib.hid hg
  clear hm e hk hg
  go_enter Tryz.func93, Tryz.ntmps93
  go_wp2_with fail
  refine (Tryz.bits_Len64 m _ (by omega) (by omega)).mono ?_
  rintro e w' ⟨rfl, rfl⟩
  rw [Int.toNat_natCast, ← HK.out]
  go_wp2_with fail
  go_ret
  exact ⟨ret_int (by rw [← HG.out]; omega), rfl⟩
theorem uint_info : (Tryz.prog.info? 5).map (fun i => (i.zero, i.size, i.bytes)) = some (some (.int .u8 0), 1, 1) := by kernel_rfl
/-- The row of bytes that Uint fills, i of them done. -/
def urow (n i : Nat) (j : Nat) : Value := if j < i then .int .u8 ((n / 128 ^ j % 128 + 128 : Nat) : Int) else .int .u8 0
theorem uint_c (n : Nat) (w : World) (h2 : n < 18446744073709551616) : Calls Tryz.prog 68 #[.int .u64 n] w fun e w' => e = .returned (.string (str (uv n))) ∧ Below w.heap.size w w' := by
  have hlen := uv_len10 h2
  have hpos := uv_pos n
  obtain ⟨k, hk⟩ : ∃ k, k = (uv n).length := ⟨_, rfl⟩
  rw [← hk] at hlen hpos
  have hmk := fun W => run_make_row' (P := Tryz.prog) 86 5 (.int .u8 0) 1 Tryz.underlying86 uint_info rfl .i64 .i64 k (by omega) (by omega) W
  have HK := Lib.hid hk
  clear hk
  go_enter Tryz.func68, Tryz.ntmps68
  go_wp2_with fail
  refine (groups_c n _ h2).mono ?_
  rintro e w' ⟨rfl, rfl⟩
  rw [← HK.out]
  go_wp2_with fail
  go_loopw [11] (fun c wr => ∃ i : Nat, i ≤ k ∧ c = .int .i64 i ∧ wr.rowIs w.heap.size 5 k (urow n i) ∧ Below w.heap.size w wr) (fun c _ => k - (intOf c).toNat)
  case atStart =>
    exact ⟨0, by omega, rfl, (World.rowIs_made w (.int .u8 0) k 5).congr (fun j _ => by simp [urow]), (Below.refl _ _).alloc (Nat.le_refl _) _⟩
  case round =>
    obtain ⟨i, hi, rfl, hrow, hb⟩ := hrel
    by_cases hlt : i < k
    · have hc := hrow.cell hlt
      have hf := hrow.frozen i
      go_wp2
      go_roundw
      case rel =>
        refine ⟨i + 1, by omega, by go_num, ?_, hb.setCell (Nat.le_refl _) _⟩
        rw [group_more]
        refine (hrow.set i _).congr (fun j _ => ?_)
        unfold urow
        by_cases h : j = i
        · subst h; rw [if_pos rfl, if_pos (by omega)]
        · rw [if_neg h]; by_cases h' : j < i
          · rw [if_pos h', if_pos (by omega)]
          · rw [if_neg h', if_neg (by omega)]
      case measure => simp [intOf]; omega
    · obtain rfl : i = k := by omega
      have hc := hrow.cell (i := i - 1) (by omega)
      have hf := hrow.frozen (i - 1)
      have ht := uv_top n (i - 1) (by rw [← HK.out]; omega)
      obtain ⟨g, hg⟩ : ∃ g, g = n / 128 ^ (i - 1) := ⟨_, rfl⟩
      have hc' : wr.cell? ⟨w.heap.size, i - 1, none⟩ = some (.int .u8 ((g : Int) + 128)) := by
        rw [hc]; unfold urow; rw [if_pos (by omega), ← hg, Nat.mod_eq_of_lt (by rw [hg]; exact ht.2)]; rfl
      have hg' : g < 128 := by rw [hg]; exact ht.2
      have hgl := group_last g hg'
      have hrow' := hrow.set (i - 1) (.int .u8 (g : Int))
      have hcv := conv_row (P := Tryz.prog) _ 86 9 5 Tryz.underlying86 Tryz.underlying5 Tryz.underlying9 w.heap.size (uv n) i i _ hrow' (by rw [← HK.out]; omega) (fun j hj => by
        rw [← HK.out] at hj
        by_cases h : j = i - 1
        · subst h
          rw [if_pos rfl]
          have h1 := ht.1
          rw [List.getElem?_eq_getElem (by rw [← HK.out]; exact hj)] at h1
          injection h1 with h1
          rw [h1, ← hg, toNat_ofNat_lt (by omega), Nat.mod_eq_of_lt hg']
        · rw [if_neg h]
          have h1 := uv_get n j (by rw [← HK.out]; omega)
          rw [List.getElem?_eq_getElem (by rw [← HK.out]; exact hj)] at h1
          injection h1 with h1
          unfold urow
          rw [if_pos hj, h1, toNat_ofNat_lt (by omega)])
      rw [← HK.out] at hcv
      clear hc ht hg hrow'
      go_wp2
      go_ret
      exact ⟨rfl, hb.setCell (Nat.le_refl _) _⟩
theorem text_c (l : List UInt8) (w : World) (h : l.length ≤ 4611686018427387904) : Calls Tryz.prog 43 #[.string (str l)] w fun e w' => e = .returned (.string (str (tx l))) ∧ Below w.heap.size w w' := by
  have h10 := uv_len10 (n := l.length) (by omega)
  go_enter Tryz.func43, Tryz.ntmps43
  go_wp2_with fail
  refine (uint_c l.length _ (by omega)).mono ?_
  rintro e w' ⟨rfl, hb⟩
  go_wp2_with fail
  go_ret
  exact ⟨rfl, hb⟩
/-- Three results, by their equations. -/
theorem ret_uie {v nx er v' nx' er' : Int} (h : (v, nx, er) = (v', nx', er')) : Ending.returned (.tuple #[.int .u64 v, .int .i64 nx, .int .i64 er]) = .returned (.tuple #[.int .u64 v', .int .i64 nx', .int .i64 er']) := by
  simp only [Prod.mk.injEq] at h; rw [h.1, h.2.1, h.2.2]
theorem ret_iie {v nx er v' nx' er' : Int} (h : (v, nx, er) = (v', nx', er')) : Ending.returned (.tuple #[.int .i64 v, .int .i64 nx, .int .i64 er]) = .returned (.tuple #[.int .i64 v', .int .i64 nx', .int .i64 er']) := by
  simp only [Prod.mk.injEq] at h; rw [h.1, h.2.1, h.2.2]
theorem ret_sie {v v' : List UInt8} {nx er nx' er' : Int} (h : (v, nx, er) = (v', nx', er')) : Ending.returned (.tuple #[.string (str v), .int .i64 nx, .int .i64 er]) = .returned (.tuple #[.string (str v'), .int .i64 nx', .int .i64 er']) := by
  simp only [Prod.mk.injEq] at h; rw [h.1, h.2.1, h.2.2]
theorem clone_c (l : List UInt8) (w : World) (h : l.length ≤ 281474976710656) : Calls Tryz.prog 31 #[.string (str l)] w fun e w' => e = .returned (.string (str l)) ∧ Below w.heap.size w w' := by
  go_enter Tryz.func31, Tryz.ntmps31
  go_wp2_with fail
  refine (Tryz.stringslite_Clone (str l) _ (by rw [str_size]; exact h)).mono ?_
  rintro e w' ⟨rfl, hb⟩
  go_wp2_with fail
  go_ret
  exact ⟨rfl, hb⟩
end Go.Proofs.YtdbifbgjbfnfmaaGreatDoor
/-
  Layer 1 (zig): what each call of the document's own answer returns; all that was in memory stays.
-/
namespace Go.Proofs.YtdbifbgjbfnfmaaGreatDoor
open Go.RowKit Go.Deep
attribute [local go_sem] str_size str_append str_toList str_get str_extract

end Go.Proofs.YtdbifbgjbfnfmaaGreatDoor
/-
  Layer 7 (index): the document's Labels and Encode.
-/
namespace Go.Proofs.YtdbifbgjbfnfmaaGreatDoor
open Go.RowKit Go.Deep
attribute [local go_sem] str_size str_append str_toList str_get str_extract
set_option linter.unusedVariables false
set_option linter.unusedSimpArgs false
/-- What a call that gives labels answers. -/
def GivesL (L : List Lab) (e : Ending) (w' : World) : Prop := ∃ A1 c1, e = .returned (.slice A1 L.length c1) ∧ LAt w' A1 L.length L
def labelsX (X : Ix) (id : Int) : List Lab := if 0 ≤ id then (X[id.toNat]?).getD [] else []
theorem labelsX_in {X : Ix} {i : Nat} (h : i < X.length) : labelsX X (i : Int) = X[i] := by
  unfold labelsX; rw [if_pos (by omega)]; simp [h]
theorem labelsX_out {X : Ix} {id : Int} (h : id < 0 ∨ (X.length : Int) ≤ id) : labelsX X id = [] := by
  unfold labelsX
  split
  · rw [List.getElem?_eq_none (by omega)]; rfl
  · rfl
theorem labelsX_mem {X : Ix} (h : Good X) (id : Int) : okL (labelsX X id) = true ∨ labelsX X id = [] := by
  by_cases hid : id < 0 ∨ (X.length : Int) ≤ id
  · exact .inr (labelsX_out hid)
  · obtain ⟨i, rfl⟩ : ∃ i : Nat, id = i := ⟨id.toNat, by omega⟩
    rw [labelsX_in (by omega)]
    exact .inl (h.ok _ (List.getElem_mem _))
/-- step_labs, where the operation stands alone. -/
theorem app_labs7 {w : World} {ops : Array Oper} {rest : List Oper} {o : Oper} {a : Act} {Q : Exit → Act → World → Prop} (hgd : o.guard = none) (s x : Operand)
    (ho : o.op = .call { callee := .builtin .append, args := #[s, x], argTypes := #[38, 38] })
    (base : Nat) (g n cap0 : Nat) (l : List Lab) (hs : a.eval s = .slice (some ⟨g, 0, none⟩) n cap0) (hown : w.ownsRow base 40 2 (.slice (some ⟨g, 0, none⟩) n cap0) n (labC l))
    (A : Option Addr) (m c : Nat) (L : List Lab) (hx : a.eval x = .slice A m c) (hA : LAt w A m L) (h63 : n + m ≤ 10000) (hbase : base ≤ w.heap.size)
    (h : ∀ A' cap' w', w'.ownsRow base 40 2 (.slice A' (n + m) cap') (n + m) (labC (l ++ L)) → w.grownBy w' (some g) → (Value.ownBlock (.slice A' (n + m) cap') = some g ∨ Value.ownBlock (.slice A' (n + m) cap') = some w.heap.size) → wpList Tryz.prog ops Q rest (a.put o.dst (.slice A' (n + m) cap')) w') :
    wpList Tryz.prog ops Q (o :: rest) a w := by
  refine wpList_plain hgd fun K hK => ?_
  have := step_labs (w := w) (ops := ops) (o := o) (a := a) (K := K) (Q := Q) (E := True) hgd s x ho base g n cap0 l hs hown A m c L hx hA h63 hbase (fun A' cap' w' h1 h2 h3 => hK _ _ (h A' cap' w' h1 h2 h3))
  rwa [if_pos (show Region.wanted o (yielded ops a.tmps) = true by simp [Region.wanted, hgd])] at this
end Go.Proofs.YtdbifbgjbfnfmaaGreatDoor
/-
  Layer 5 (match): matchers, plain; a matcher and a row of strings in memory.
-/
namespace Go.Proofs.YtdbifbgjbfnfmaaGreatDoor
open Go.RowKit Go.Deep
attribute [local go_sem] str_size str_append str_toList str_get str_extract
set_option linter.unusedVariables false
set_option linter.unusedSimpArgs false
/-- A matcher: its kind, name, value, set. -/
abbrev Mat := Int × List UInt8 × List UInt8 × List (List UInt8)
def oneL (m : Mat) (l : List Lab) : Bool :=
  if m.1 = 0 then getL l m.2.1 == m.2.2.1
  else if m.1 = 1 then getL l m.2.1 != m.2.2.1
  else if m.1 = 2 then Lib.hasPrefix (getL l m.2.1) m.2.2.1
  else if m.1 = 3 then m.2.2.2.any (fun x => x == getL l m.2.1)
  else false
/-- A row of strings that was there. -/
def StrsAt (w : World) (A : Option Addr) (len : Nat) (l : List (List UInt8)) : Prop :=
  len = l.length ∧ ∀ i (h : i < l.length), l[i].length ≤ 9223372036854775807 ∧
    ∃ ad, A = some ad ∧ (ad.add i).block < w.heap.size ∧ w.cell? (ad.add i) = some (.string (str l[i]))
theorem StrsAt.below {w w' : World} {A : Option Addr} {len : Nat} {l : List (List UInt8)} (h : StrsAt w A len l) (hb : Below w.heap.size w w') : StrsAt w' A len l :=
  ⟨h.1, fun i hi => by
    obtain ⟨h1, ad, rfl, h2, h3⟩ := h.2 i hi
    exact ⟨h1, ad, rfl, Nat.lt_of_lt_of_le h2 hb.size, (hb.cell (p := ad.add i) h2).trans h3⟩⟩
theorem StrsAt.nil (w : World) (A : Option Addr) : StrsAt w A 0 [] := ⟨rfl, fun i h => by simp at h⟩
/-- A slice of matchers that was there. -/
def MsAt (w : World) (A : Option Addr) (len : Nat) (l : List Mat) : Prop :=
  len = l.length ∧ ∀ i (h : i < l.length), (l[i].2.1.length ≤ 9223372036854775807 ∧ l[i].2.2.1.length ≤ 9223372036854775807 ∧ l[i].2.2.2.length ≤ 9223372036854775807 ∧ -9223372036854775808 ≤ l[i].1 ∧ l[i].1 ≤ 9223372036854775807) ∧
    ∃ ad, A = some ad ∧ (ad.add (i * 4)).block < w.heap.size ∧ w.cell? (ad.add (i * 4)) = some (.int .i64 l[i].1) ∧ w.cell? ⟨(ad.add (i * 4)).block, (ad.add (i * 4)).off + 1, none⟩ = some (.string (str l[i].2.1)) ∧
      w.cell? ⟨(ad.add (i * 4)).block, (ad.add (i * 4)).off + 2, none⟩ = some (.string (str l[i].2.2.1)) ∧ ∃ S cap, w.cell? ⟨(ad.add (i * 4)).block, (ad.add (i * 4)).off + 3, none⟩ = some (.slice S l[i].2.2.2.length cap) ∧ StrsAt w S l[i].2.2.2.length l[i].2.2.2
theorem MsAt.below {w w' : World} {A : Option Addr} {len : Nat} {l : List Mat} (h : MsAt w A len l) (hb : Below w.heap.size w w') : MsAt w' A len l :=
  ⟨h.1, fun i hi => by
    obtain ⟨h1, ad, rfl, h2, h3, h4, h5, S, cap, h6, h7⟩ := h.2 i hi
    exact ⟨h1, ad, rfl, Nat.lt_of_lt_of_le h2 hb.size, (hb.cell (p := ad.add (i * 4)) h2).trans h3, (hb.cell (p := ⟨(ad.add (i * 4)).block, (ad.add (i * 4)).off + 1, none⟩) h2).trans h4,
      (hb.cell (p := ⟨(ad.add (i * 4)).block, (ad.add (i * 4)).off + 2, none⟩) h2).trans h5, S, cap, (hb.cell (p := ⟨(ad.add (i * 4)).block, (ad.add (i * 4)).off + 3, none⟩) h2).trans h6, h7.below hb⟩⟩
theorem MsAt.nil (w : World) (A : Option Addr) : MsAt w A 0 [] := ⟨rfl, fun i h => by simp at h⟩
theorem any_take {α : Type} (p : α → Bool) (l : List α) (i : Nat) (h : i < l.length) : (l.take (i + 1)).any p = ((l.take i).any p || p l[i]) := by
  rw [List.take_succ_eq_append_getElem h, List.any_append]; simp
theorem drop_any {α : Type} (p : α → Bool) (l : List α) (i : Nat) (h : i < l.length) : (l.drop i).any p = (p l[i] || (l.drop (i + 1)).any p) := by
  rw [List.drop_eq_getElem_cons h, List.any_cons]
set_option maxHeartbeats 400000 in
theorem strIndex_c (A : Option Addr) (len cap : Nat) (l : List (List UInt8)) (x : List UInt8) (w : World) (hl : len ≤ 9223372036854775807) (hA : StrsAt w A len l) :
    Calls Tryz.prog 85 #[.slice A len cap, .string (str x)] w fun e w' => (∃ k : Int, e = .returned (.int .i64 k) ∧ decide (k ≥ 0) = l.any (fun y => y == x)) ∧ w = w' := by
  have hle := hA.1
  subst hle
  obtain ⟨R, hR⟩ : ∃ R, l.any (fun y => y == x) = R := ⟨_, rfl⟩
  rw [hR]
  have HR := Lib.hid hR
  clear hR
  go_enter Tryz.func85, Tryz.ntmps85
  go_wp2_with fail
  go_loopw [8] (fun c wr => ∃ i : Nat, i ≤ l.length ∧ c = .int .i64 i ∧ Hid ((l.drop i).any (fun y => y == x) = R) ∧ w = wr) (fun c _ => l.length - (intOf c).toNat)
  case atStart => exact ⟨0, Nat.zero_le _, rfl, HR.out, rfl⟩
  case round =>
    obtain ⟨i, hi, rfl, HI, rfl⟩ := hrel
    by_cases hlt : i < l.length
    · obtain ⟨h1, ad, rfl, h2, h3⟩ := hA.2 i hlt
      have hst := drop_any (fun y => y == x) l i hlt
      rw [HI.out] at hst
      have HS := Lib.hid hst
      by_cases hq : l[i] = x
      · have t1 : (x == l[i]) = true := by rw [hq]; simp
        have e : R = true := by rw [hst, hq]; simp
        subst e
        clear hst hq
        go_wp2_with fail
        go_ret
        exact ⟨⟨_, rfl, by simp⟩, rfl⟩
      · have t1 : (x == l[i]) = false := by rw [beq_eq_false_iff_ne]; exact fun h => hq h.symm
        have e : (l[i] == x) = false := by rw [beq_eq_false_iff_ne]; exact hq
        have e2 : (l.drop (i + 1)).any (fun y => y == x) = R := by rw [hst, e]; rfl
        have HE := Lib.hid e2
        clear hst hq e e2
        go_wp2_with fail
        go_roundw
        case rel => exact ⟨i + 1, by omega, by go_num, HE.out, by first | rfl | trivial⟩
        case measure => simp [intOf]; omega
    · obtain rfl : i = l.length := by omega
      have e := HI.out
      rw [List.drop_length] at e
      have e2 : R = false := e.symm
      subst e2
      clear e
      go_wp2_with fail
      go_ret
      exact ⟨⟨_, rfl, by decide⟩, rfl⟩
theorem contains_c (A : Option Addr) (len cap : Nat) (l : List (List UInt8)) (x : List UInt8) (w : World) (hl : len ≤ 9223372036854775807) (hA : StrsAt w A len l) :
    Calls Tryz.prog 56 #[.slice A len cap, .string (str x)] w fun e w' => e = .returned (.bool (l.any (fun y => y == x))) ∧ w = w' := by
  have ci := Lib.hid (strIndex_c A len cap l x w hl hA)
  go_enter Tryz.func56, Tryz.ntmps56
  go_wp2_with (go_at_call 85; refine ci.out.mono ?_; rintro e w1 ⟨⟨k, rfl, hk⟩, rfl⟩; have HK := Lib.hid hk; clear hk; dsimp only)
  go_ret
  exact ⟨by rw [← HK.out]; rfl, rfl⟩
theorem find1_c (m : Mat) (A : Option Addr) (cap : Nat) (v : List UInt8) (w : World) :
    Calls Tryz.prog 52 #[.agg #[.int .i64 m.1, .string (str m.2.1), .string (str m.2.2.1), .slice A m.2.2.2.length cap], .string (str v)] w fun e w' => e = .returned (.bool (v == m.2.2.1)) ∧ Below w.heap.size w w' := by
  go_enter Tryz.func52, Tryz.ntmps52
  go_wp2_with fail
  go_ret
  exact ⟨rfl, (Below.refl _ _).alloc (Nat.le_refl _) _⟩
theorem find2_c (m : Mat) (A : Option Addr) (cap : Nat) (v : List UInt8) (w : World) :
    Calls Tryz.prog 53 #[.agg #[.int .i64 m.1, .string (str m.2.1), .string (str m.2.2.1), .slice A m.2.2.2.length cap], .string (str v)] w fun e w' => e = .returned (.bool (Lib.hasPrefix v m.2.2.1)) ∧ Below w.heap.size w w' := by
  have cp := fun W => Tryz.strings_HasPrefix (str v) (str m.2.2.1) W
  rw [str_data, str_data] at cp
  go_enter Tryz.func53, Tryz.ntmps53
  go_wp2_with (go_at_call 54; refine (cp _).mono ?_; rintro e w1 ⟨rfl, rfl⟩; dsimp only)
  go_ret
  exact ⟨rfl, (Below.refl _ _).alloc (Nat.le_refl _) _⟩
theorem find3_c (m : Mat) (A : Option Addr) (cap : Nat) (v : List UInt8) (w : World) (hl : m.2.2.2.length ≤ 9223372036854775807) (hA : StrsAt w A m.2.2.2.length m.2.2.2) :
    Calls Tryz.prog 55 #[.agg #[.int .i64 m.1, .string (str m.2.1), .string (str m.2.2.1), .slice A m.2.2.2.length cap], .string (str v)] w fun e w' => e = .returned (.bool (m.2.2.2.any (fun y => y == v))) ∧ Below w.heap.size w w' := by
  have hb1 : Below w.heap.size w (w.alloc (.cells #[.int .i64 m.1, .string (str m.2.1), .string (str m.2.2.1), .slice A m.2.2.2.length cap] 57)) := (Below.refl _ _).alloc (Nat.le_refl _) _
  have cp := contains_c A m.2.2.2.length cap m.2.2.2 v _ hl (hA.below hb1)
  go_enter Tryz.func55, Tryz.ntmps55
  go_wp2_with (go_at_call 56; refine cp.mono ?_; rintro e w1 ⟨rfl, rfl⟩; dsimp only)
  go_ret
  exact ⟨rfl, (Below.refl _ _).alloc (Nat.le_refl _) _⟩
end Go.Proofs.YtdbifbgjbfnfmaaGreatDoor
/-
  Layer 7 (index): the bounds that the laws ask.
-/
namespace Go.Proofs.YtdbifbgjbfnfmaaGreatDoor
open Go.RowKit Go.Deep
attribute [local go_sem] str_size str_append str_toList str_get str_extract
set_option linter.unusedVariables false
set_option linter.unusedSimpArgs false
def SmallL (l : List Lab) : Prop := l.length ≤ 4096 ∧ ∀ x ∈ l, x.1.length ≤ 4096 ∧ x.2.length ≤ 4096
def SmallLL (L : List (List Lab)) : Prop := L.length ≤ 4096 ∧ ∀ l ∈ L, SmallL l
/-- Says whether they are many; if not, they are few. -/
def Says (P : Prop) (e : Ending) : Prop := ∃ b, e = .returned (.bool b) ∧ (b = false → P)
def SmallM (m : Mat) : Prop := m.2.1.length ≤ 1024 ∧ m.2.2.1.length ≤ 1024 ∧ m.2.2.2.length ≤ 20 ∧ ∀ s ∈ m.2.2.2, s.length ≤ 1024
def SmallMs (ms : List Mat) : Prop := ms.length ≤ 40 ∧ ∀ m ∈ ms, SmallM m
def Small20 (ms : List Mat) : Prop := ms.length ≤ 20 ∧ ∀ m ∈ ms, SmallM m
theorem Small20.to {ms : List Mat} (h : Small20 ms) : SmallMs ms := ⟨by have := h.1; omega, h.2⟩
theorem mem_take_next {α : Type} {P : α → Prop} {l : List α} {i : Nat} (h : i < l.length) (h1 : ∀ x ∈ l.take i, P x) (h2 : P l[i]) : ∀ x ∈ l.take (i + 1), P x := by
  rw [List.take_succ_eq_append_getElem h]
  intro x hx
  rcases List.mem_append.1 hx with hx | hx
  · exact h1 x hx
  · simp at hx; subst hx; exact h2
set_option maxRecDepth 100000 in
set_option maxHeartbeats 1000000 in
theorem heavy7_c (A : Option Addr) (len cap : Nat) (L : List (List Lab)) (w : World) (hl : len ≤ 9223372036854775807) (hA : LLAt w A len cap L) :
    Calls Tryz.prog 4 #[.slice A len cap] w fun e w' => Says (SmallLL L) e ∧ Below w.heap.size w w' := by
  have hle := hA.1
  subst hle
  go_enter Tryz.func4, Tryz.ntmps4
  go_wp2_with fail
  go_loopw [3, 4] (fun a c wr => ∃ i n : Nat, i ≤ L.length ∧ c = .int .i64 i ∧ a = .int .i64 n ∧ Hid (n ≤ 4096 → L.length ≤ 4096 ∧ ∀ l ∈ L.take i, SmallL l) ∧ n ≤ 16777216 ∧ Below w.heap.size w wr) (fun _ c _ => L.length - (intOf c).toNat)
  case atStart =>
    refine ⟨0, min L.length 1048576, Nat.zero_le _, rfl, ?_, ?_, by omega, Below.refl _ _⟩
    · simp; omega
    · show _ → _; intro h; exact ⟨by omega, by simp⟩
  case round =>
    obtain ⟨i, n, hi, rfl, rfl, HN, hn, hb⟩ := hrel
    have hbs := hb.size
    by_cases hlt : i < L.length
    · by_cases hg : (n : Int) ≤ 4096
      · obtain ⟨ad, Ai, ci, rfl, h2, h3, h4, h5⟩ := hA.2.2 i hlt
        have hg3 := h3
        have h3 := (hb.cell (p := ad.add i) h2).trans h3
        have hnx := fun h1 h2 => mem_take_next (P := SmallL) hlt h1 h2
        obtain ⟨l, hl2⟩ : ∃ l, L[i]'hlt = l := ⟨_, rfl⟩
        rw [hl2] at h3 hg3 h4 h5 hnx
        unfold maxLen at h5
        have HG := Lib.hid (fun (W : World) (hW : Below w.heap.size w W) => (hW.cell (p := ad.add i) h2).trans hg3)
        obtain ⟨m, hm⟩ : ∃ m, m = n + min l.length 1048576 := ⟨_, rfl⟩
        have em : (n : Int) + min (l.length : Int) 1048576 = (m : Int) := by omega
        have HM : Hid (m ≤ 4096 → n ≤ 4096 ∧ l.length ≤ 4096) := by show _ → _; intro h; omega
        have hm2 : m ≤ 4000000 := by omega
        have HX := Lib.hid (And.intro hnx h4)
        clear hnx hl2 hg3 h4 hm
        obtain ⟨wo, rfl⟩ : ∃ wo : World, wo = wr := ⟨_, rfl⟩
        go_wp2_with fail
        go_loopw [3, 5] (fun a c wr => ∃ k q : Nat, k ≤ l.length ∧ c = .int .i64 k ∧ a = .int .i64 q ∧ Hid (q ≤ 4096 → m ≤ 4096 ∧ ∀ x ∈ l.take k, x.1.length ≤ 4096 ∧ x.2.length ≤ 4096) ∧ q ≤ 16777216 ∧ Below w.heap.size w wr) (fun _ c _ => l.length - (intOf c).toNat)
        case atStart => exact ⟨0, m, Nat.zero_le _, rfl, by first | rfl | (rw [← em]; rfl) | (simp; omega), by show _ → _; intro h; exact ⟨h, by simp⟩, by omega, hb⟩
        case round =>
          clear h3 hbs
          obtain ⟨k, q, hk, rfl, rfl, HQ, hq, hb2⟩ := hrel
          have h3 := HG.out _ hb2
          by_cases hkt : k < l.length
          · by_cases hg2 : (q : Int) ≤ 4096
            · obtain ⟨⟨r1, r2⟩, ad2, rfl, q2, q3, q4⟩ := (HX.out.2.below hb2).2 k hkt
              have hnx := fun h1 h2 => mem_take_next (P := fun x : Lab => x.1.length ≤ 4096 ∧ x.2.length ≤ 4096) hkt h1 h2
              obtain ⟨a, ha⟩ : ∃ a, l[k].1 = a := ⟨_, rfl⟩
              obtain ⟨b, hbb⟩ : ∃ b, l[k].2 = b := ⟨_, rfl⟩
              rw [ha] at r1 q3 hnx
              rw [hbb] at r2 q4 hnx
              obtain ⟨u, hu⟩ : ∃ u, u = q + (min a.length 1048576 + min b.length 1048576) := ⟨_, rfl⟩
              have eu : (q : Int) + (min (a.length : Int) 1048576 + min (b.length : Int) 1048576) = (u : Int) := by omega
              have HU : Hid (u ≤ 4096 → m ≤ 4096 ∧ ∀ x ∈ l.take (k + 1), x.1.length ≤ 4096 ∧ x.2.length ≤ 4096) := by
                show _ → _
                intro h
                have h0 := HQ.out (by omega)
                exact ⟨h0.1, hnx h0.2 ⟨by omega, by omega⟩⟩
              have hu2 : u ≤ 16777216 := by omega
              clear hnx ha hbb hu
              go_wp2_with fail
              go_quiet (fail)
              go_wp2_with fail
              go_roundw
              case rel => exact ⟨k + 1, u, by omega, by go_num, by first | rfl | (rw [← eu]; rfl), HU.out, hu2, below_drewN hb2 _⟩
              case measure => simp [intOf]; omega
            · have t2 : decide ((q : Int) ≤ 4096) = false := by simpa using hg2
              go_wp2_with fail
              go_roundw
              case rel => exact ⟨i + 1, q, by omega, by go_num, rfl, by show _ → _; intro h; omega, hq, hb2⟩
              case measure => simp [intOf]; omega
          · obtain rfl : k = l.length := by omega
            have HE : Hid (q ≤ 4096 → L.length ≤ 4096 ∧ ∀ l ∈ L.take (i + 1), SmallL l) := by
              show _ → _
              intro h
              have h0 := HQ.out h
              rw [List.take_length] at h0
              have h1 := HM.out h0.1
              have h2 := HN.out h1.1
              exact ⟨h2.1, HX.out.1 h2.2 ⟨h1.2, h0.2⟩⟩
            go_wp2_with fail
            go_roundw
            case rel => exact ⟨i + 1, q, by omega, by go_num, rfl, HE.out, hq, hb2⟩
            case measure => simp [intOf]; omega
      · have t1 : decide ((n : Int) ≤ 4096) = false := by simpa using hg
        have t2 : decide (4096 < (n : Int)) = true := by simpa using by omega
        go_wp2_with fail
        go_ret
        exact ⟨⟨true, rfl, fun h => by cases h⟩, hb⟩
    · obtain rfl : i = L.length := by omega
      have HE := Lib.hid HN.out
      by_cases hg : 4096 < (n : Int)
      · have t2 : decide (4096 < (n : Int)) = true := by simpa using hg
        go_wp2_with fail
        go_ret
        exact ⟨⟨true, rfl, fun h => by cases h⟩, hb⟩
      · have t2 : decide (4096 < (n : Int)) = false := by simpa using hg
        go_wp2_with fail
        go_ret
        exact ⟨⟨false, rfl, fun _ => by have := HE.out (by omega); rwa [List.take_length] at this⟩, hb⟩
end Go.Proofs.YtdbifbgjbfnfmaaGreatDoor
/-
  Layer 4 (label): what Get returns, the program's and the document's; all that was in memory stays.
-/
namespace Go.Proofs.YtdbifbgjbfnfmaaGreatDoor
open Go.RowKit Go.Deep
attribute [local go_sem] str_size str_append str_toList str_get str_extract
set_option linter.unusedVariables false
set_option linter.unusedSimpArgs false
theorem lclone_c (l : List UInt8) (w : World) (h : l.length ≤ 281474976710656) : Calls Tryz.prog 31 #[.string (str l)] w fun e w' => e = .returned (.string (str l)) ∧ Below w.heap.size w w' := by
  go_enter Tryz.func31, Tryz.ntmps31
  go_wp2_with fail
  refine (Tryz.stringslite_Clone (str l) _ (by rw [str_size]; exact h)).mono ?_
  rintro e w' ⟨rfl, hb⟩
  go_wp2_with fail
  go_ret
  exact ⟨rfl, hb⟩
set_option maxHeartbeats 1000000 in
theorem get_c (A : Option Addr) (len cap : Nat) (l : List Lab) (m : List UInt8) (w : World) (hl : len ≤ 140737488355328) (hA : LAt w A len l) (hz : ∀ x ∈ l, x.1.length ≤ 4096 ∧ x.2.length ≤ 4096) :
    Calls Tryz.prog 62 #[.slice A len cap, .string (str m)] w fun e w' => e = .returned (.string (str (getL l m))) ∧ Below w.heap.size w w' := by
  have hle := hA.1
  subst hle
  obtain ⟨R, hR⟩ : ∃ R, getL l m = R := ⟨_, rfl⟩
  rw [hR]
  have HR := Lib.hid hR
  clear hR
  go_enter Tryz.func62, Tryz.ntmps62
  go_wp2_with fail
  go_loopw [9] (fun c wr => ∃ i : Nat, i ≤ l.length ∧ c = .int .i64 i ∧ Hid (getL (l.drop i) m = R) ∧ Below w.heap.size w wr) (fun c _ => l.length - (intOf c).toNat)
  case atStart => exact ⟨0, Nat.zero_le _, rfl, HR.out, Below.refl _ _⟩
  case round =>
    obtain ⟨i, hi, rfl, HI, hb⟩ := hrel
    have hsz := hb.size
    by_cases hlt : i < l.length
    · obtain ⟨-, ad, rfl, h2, h3, h4⟩ := (hA.below hb).2 i hlt
      have hhere := fun e => getL_here (n := m) hlt e
      have hfar := fun e => getL_far (n := m) hlt e
      obtain ⟨z1, z2⟩ := hz _ (List.getElem_mem hlt)
      obtain ⟨x, hx⟩ : ∃ x, l[i]'hlt = x := ⟨_, rfl⟩
      rw [hx] at hhere hfar h3 h4 z1 z2
      obtain ⟨n, v⟩ := x
      simp only at hhere hfar h3 h4 z1 z2
      have hba : Below w.heap.size w (wr.alloc (.cells #[.string (str n), .string (str v)] 40)) := hb.alloc hsz _
      have hsa : w.heap.size ≤ (wr.alloc (.cells #[.string (str n), .string (str v)] 40)).heap.size := by simp; omega
      by_cases hn : n = m
      · have t1 : (n == m) = true := by simpa using hn
        have e := hhere hn
        rw [HI.out] at e
        subst e
        have c1 := fun W => lclone_c R W (by omega)
        clear hhere hfar hn hx
        go_wp2_with (go_at_call 31; refine (c1 _).mono ?_; rintro e w2 ⟨rfl, hb2⟩)
        go_ret
        exact ⟨rfl, hba.trans (hb2.mono hsa)⟩
      · have t1 : (n == m) = false := by rw [beq_eq_false_iff_ne]; exact hn
        have e := hfar hn
        rw [HI.out] at e
        have HE := Lib.hid e
        clear hhere hfar hn hx e
        go_wp2_with fail
        go_roundw
        case rel => exact ⟨i + 1, by omega, by go_num, HE.out.symm, hba⟩
        case measure => simp [intOf]; omega
    · obtain rfl : i = l.length := by omega
      have e := HI.out
      rw [getL_end] at e
      subst e
      go_wp2_with fail
      go_ret
      exact ⟨rfl, hb⟩
set_option maxHeartbeats 1000000 in
theorem refGet_c (A : Option Addr) (len cap : Nat) (l : List Lab) (m : List UInt8) (w : World) (hl : len ≤ 140737488355328) (hA : LAt w A len l) (hz : ∀ x ∈ l, x.1.length ≤ 4096 ∧ x.2.length ≤ 4096) :
    Calls Tryz.prog 20 #[.slice A len cap, .string (str m)] w fun e w' => e = .returned (.string (str (getL l m))) ∧ w = w' := by
  have hle := hA.1
  subst hle
  obtain ⟨R, hR⟩ : ∃ R, getL l m = R := ⟨_, rfl⟩
  rw [hR]
  have HR := Lib.hid hR
  clear hR
  go_enter Tryz.func20, Tryz.ntmps20
  go_wp2_with fail
  go_loopw [5] (fun c wr => ∃ i : Nat, i ≤ l.length ∧ c = .int .i64 i ∧ Hid (getL (l.drop i) m = R) ∧ w = wr) (fun c _ => l.length - (intOf c).toNat)
  case atStart => exact ⟨0, Nat.zero_le _, rfl, HR.out, rfl⟩
  case round =>
    obtain ⟨i, hi, rfl, HI, rfl⟩ := hrel
    by_cases hlt : i < l.length
    · obtain ⟨-, ad, rfl, h2, h3, h4⟩ := hA.2 i hlt
      have hhere := fun e => getL_here (n := m) hlt e
      have hfar := fun e => getL_far (n := m) hlt e
      obtain ⟨z1, z2⟩ := hz _ (List.getElem_mem hlt)
      obtain ⟨x, hx⟩ : ∃ x, l[i]'hlt = x := ⟨_, rfl⟩
      rw [hx] at hhere hfar h3 h4 z1 z2
      obtain ⟨n, v⟩ := x
      simp only at hhere hfar h3 h4 z1 z2
      by_cases hn : n = m
      · have t1 : (n == m) = true := by simpa using hn
        have e := hhere hn
        rw [HI.out] at e
        subst e
        clear hhere hfar hn hx
        go_wp2_with fail
        go_ret
        exact ⟨rfl, rfl⟩
      · have t1 : (n == m) = false := by rw [beq_eq_false_iff_ne]; exact hn
        have e := hfar hn
        rw [HI.out] at e
        have HE := Lib.hid e
        clear hhere hfar hn hx e
        go_wp2_with fail
        go_roundw
        case rel => exact ⟨i + 1, by omega, by go_num, HE.out.symm, by first | rfl | trivial⟩
        case measure => simp [intOf]; omega
    · obtain rfl : i = l.length := by omega
      have e := HI.out
      rw [getL_end] at e
      subst e
      go_wp2_with fail
      go_ret
      exact ⟨rfl, rfl⟩
end Go.Proofs.YtdbifbgjbfnfmaaGreatDoor
/-
  Layer 5 (match): what kindOf returns.
-/
namespace Go.Proofs.YtdbifbgjbfnfmaaGreatDoor
open Go.RowKit Go.Deep
attribute [local go_sem] str_size str_append str_toList str_get str_extract
set_option linter.unusedVariables false
set_option linter.unusedSimpArgs false
/-- A kind's value: its mark, whether it is turned round, whether it looks for many, what it looks for. -/
def kindV (mark : List UInt8) (b c : Bool) (F : Value) : Value := .agg #[.string (str mark), .bool b, .bool c, F]
def kindL (k : Int) : Value :=
  if k = 0 then kindV [] false false (.func (.func 52) #[] #[])
  else if k = 1 then kindV [33] true false (.func (.func 52) #[] #[])
  else if k = 2 then kindV [94] false false (.func (.func 53) #[] #[])
  else if k = 3 then kindV [64] false true (.func (.func 55) #[] #[])
  else kindV [] false false .nilFunc
theorem kindOf_c (k : Int) (w : World) : Calls Tryz.prog 33 #[.int .i64 k] w fun e w' => e = .returned (.tuple #[kindL k, .bool (decide (0 ≤ k ∧ k ≤ 3))]) ∧ Below w.heap.size w w' := by
  have hs1 := fun (a : Addr) (w : World) => run_store Tryz.prog w a (.func (.func 52) #[] #[]) .plain rfl
  have hs2 := fun (a : Addr) (w : World) => run_store Tryz.prog w a (.func (.func 53) #[] #[]) .plain rfl
  have hs3 := fun (a : Addr) (w : World) => run_store Tryz.prog w a (.func (.func 55) #[] #[]) .plain rfl
  have hs4 := fun (a : Addr) (w : World) => run_store Tryz.prog w a .nilFunc .plain rfl
  by_cases h0 : k = 0
  · subst h0
    go_enter Tryz.func33, Tryz.ntmps33
    go_wp2_with fail
    refine bodyPost_ret (v := .tuple #[kindV [] false false (.func (.func 52) #[] #[]), .bool true]) ?_ rfl ⟨?_, ?_⟩
    · rw [results_cell_tmp rfl]; go_simp; try rfl
    · first | rfl | (rw [HE.out.1, HE.out.2])
    · repeat' (first | exact Below.refl _ _ | refine Below.alloc ?_ (by simp <;> omega) _)
  by_cases h1 : k = 1
  · subst h1
    go_enter Tryz.func33, Tryz.ntmps33
    go_wp2_with fail
    refine bodyPost_ret (v := .tuple #[kindV [33] true false (.func (.func 52) #[] #[]), .bool true]) ?_ rfl ⟨?_, ?_⟩
    · rw [results_cell_tmp rfl]; go_simp; try rfl
    · first | rfl | (rw [HE.out.1, HE.out.2])
    · repeat' (first | exact Below.refl _ _ | refine Below.alloc ?_ (by simp <;> omega) _)
  by_cases h2 : k = 2
  · subst h2
    go_enter Tryz.func33, Tryz.ntmps33
    go_wp2_with fail
    refine bodyPost_ret (v := .tuple #[kindV [94] false false (.func (.func 53) #[] #[]), .bool true]) ?_ rfl ⟨?_, ?_⟩
    · rw [results_cell_tmp rfl]; go_simp; try rfl
    · first | rfl | (rw [HE.out.1, HE.out.2])
    · repeat' (first | exact Below.refl _ _ | refine Below.alloc ?_ (by simp <;> omega) _)
  by_cases h3 : k = 3
  · subst h3
    go_enter Tryz.func33, Tryz.ntmps33
    go_wp2_with fail
    refine bodyPost_ret (v := .tuple #[kindV [64] false true (.func (.func 55) #[] #[]), .bool true]) ?_ rfl ⟨?_, ?_⟩
    · rw [results_cell_tmp rfl]; go_simp; try rfl
    · first | rfl | (rw [HE.out.1, HE.out.2])
    · repeat' (first | exact Below.refl _ _ | refine Below.alloc ?_ (by simp <;> omega) _)
  have HE : Hid (kindL k = kindV [] false false .nilFunc ∧ decide (0 ≤ k ∧ k ≤ 3) = false) := by
    refine ⟨?_, decide_eq_false (by omega)⟩
    unfold kindL
    rw [if_neg h0, if_neg h1, if_neg h2, if_neg h3]
  have t0 : (k == 0) = false := by simpa using h0
  have t1 : (k == 1) = false := by simpa using h1
  have t2 : (k == 2) = false := by simpa using h2
  have t3 : (k == 3) = false := by simpa using h3
  clear h0 h1 h2 h3
  go_enter Tryz.func33, Tryz.ntmps33
  go_wp2_with fail
  refine bodyPost_ret (v := .tuple #[kindV [] false false .nilFunc, .bool false]) ?_ rfl ⟨?_, ?_⟩
  · rw [results_cell_tmp rfl]; go_simp; try rfl
  · first | rfl | (rw [HE.out.1, HE.out.2])
  · repeat' (first | exact Below.refl _ _ | refine Below.alloc ?_ (by simp <;> omega) _)
end Go.Proofs.YtdbifbgjbfnfmaaGreatDoor
/-
  A region that draws its order, taken by hand: an operation is told by its number and its slot alone. Plain lemmas; they name no program.
-/
namespace Go.Proofs.YtdbifbgjbfnfmaaGreatDoor
open Go.RowKit Go.Deep
/-- Left in the plain way alone. -/
def OnlyN (R : Act → World → Prop) : Exit → Act → World → Prop
  | .normal, a, w => R a w
  | _, _, _ => False
theorem only_imp {R : Act → World → Prop} {Q : Exit → Act → World → Prop} (h : ∀ a w, R a w → Q .normal a w) : ∀ e a w, OnlyN R e a w → Q e a w := fun e a w hr => by
  cases e <;> first | exact h _ _ hr | exact hr.elim
section
variable {P : Program} {ops : Array Oper} {Q : Exit → Act → World → Prop} {md : Region.Mode} {S : World → Prop}
/-- Operation i runs, yields v in every world that meets S, and is taken first. -/
theorem held_w {i : Nat} {d : Option Nat} {v : Value} {fuel : Nat} {listed : Array Bool} {a : Act} {w : World} (hd : (ops[i]?).map (·.dst) = some d)
    (hs : Region.noSelect ops = true) (hf : Region.free md ops listed i = true) (hr : (Region.ready md ops listed).contains i = true)
    (hQ : ∀ c a w, Q (.panic c) (a.put d v) w → Q (.panic c) a w) (hw : (ops[i]?).map (fun o => Region.wanted o (yielded ops a.tmps)) = some true)
    (hy : ∀ w', S w' → match ops[i]? with | some o => (execOp a.eval o).run P w' = .ok (.value v) w' | none => True) (hS : S w)
    (h : wpAnyH P md ops Q S fuel (listed.setIfInBounds i true) (a.put d v) w) : wpAnyH P md ops Q S (fuel + 1) listed a w := by
  cases ho : ops[i]? with
  | none => rw [ho] at hd; cases hd
  | some o =>
    rw [ho] at hd hw
    simp only [Option.map_some, Option.some.injEq] at hd hw
    subst hd
    exact wpAnyH_take ho hs hf hr hQ (.inl ⟨hw, fun w' hSw => by have := hy w' hSw; rw [ho] at this; exact this⟩) hS h
/-- Operation i is not wanted: its guard is false. -/
theorem held_u {i : Nat} {d : Option Nat} {fuel : Nat} {listed : Array Bool} {a : Act} {w : World} (hd : (ops[i]?).map (·.dst) = some d)
    (hs : Region.noSelect ops = true) (hf : Region.free md ops listed i = true) (hr : (Region.ready md ops listed).contains i = true)
    (hQ : ∀ c a w, Q (.panic c) (a.put d undef) w → Q (.panic c) a w) (hw : (ops[i]?).map (fun o => Region.wanted o (yielded ops a.tmps)) = some false) (hS : S w)
    (h : wpAnyH P md ops Q S fuel (listed.setIfInBounds i true) (a.put d undef) w) : wpAnyH P md ops Q S (fuel + 1) listed a w := by
  cases ho : ops[i]? with
  | none => rw [ho] at hd; cases hd
  | some o =>
    rw [ho] at hd hw
    simp only [Option.map_some, Option.some.injEq] at hd hw
    subst hd
    exact wpAnyH_take ho hs hf hr hQ (.inr ⟨hw, rfl⟩) hS h
/-- Operation i alone may come up. -/
theorem held_c {i : Nat} {fuel : Nat} {listed : Array Bool} {a : Act} {w : World} (hr : Region.ready md ops listed = [i]) (hw : (ops[i]?).map (fun o => Region.wanted o (yielded ops a.tmps)) = some true)
    (h : ∀ K : Act → World → Prop, Shut (∀ a w, S w → (S w → wpAnyH P md ops Q S fuel (listed.setIfInBounds i true) a w) → K a w) → match ops[i]? with | some o => Oper.wp P o a w K Q | none => True) :
    wpAnyH P md ops Q S (fuel + 1) listed a w := by
  cases ho : ops[i]? with
  | none => rw [ho] at hw; cases hw
  | some o =>
    refine wpAnyH_ready hr (by simp) (AllReadyH.cons ho (fun K hK => ?_) AllReadyH.nil)
    rw [ho] at hw
    simp only [Option.map_some, Option.some.injEq] at hw
    rw [if_pos hw]
    have := h K hK
    rw [ho] at this
    exact this
/-- The world under a name. -/
theorem wpAnyH_gen {fuel : Nat} {listed : Array Bool} {a : Act} {w : World} (h : ∀ Wc, Wc = w → wpAnyH P md ops Q S fuel listed a Wc) : wpAnyH P md ops Q S fuel listed a w := h w rfl
/-- What is asked where operation i comes up. -/
def Comes1 (P : Program) (ops : Array Oper) (Q : Exit → Act → World → Prop) (md : Region.Mode) (S : World → Prop) (fuel : Nat) (listed : Array Bool) (a : Act) (w : World) (i : Nat) : Prop :=
  (ops[i]?).map (fun o => Region.wanted o (yielded ops a.tmps)) = some true ∧
    ∀ K : Act → World → Prop, Shut (∀ a w, S w → (S w → wpAnyH P md ops Q S fuel (listed.setIfInBounds i true) a w) → K a w) → match ops[i]? with | some o => Oper.wp P o a w K Q | none => True
def ComesAll (P : Program) (ops : Array Oper) (Q : Exit → Act → World → Prop) (md : Region.Mode) (S : World → Prop) (fuel : Nat) (listed : Array Bool) (a : Act) (w : World) : List Nat → Prop
  | [] => True
  | i :: rs => Comes1 P ops Q md S fuel listed a w i ∧ ComesAll P ops Q md S fuel listed a w rs
/-- Several may come up. -/
theorem held_many {rs : List Nat} {fuel : Nat} {listed : Array Bool} {a : Act} {w : World} (hr : Region.ready md ops listed = rs) (hne : rs ≠ []) (h : ComesAll P ops Q md S fuel listed a w rs) : wpAnyH P md ops Q S (fuel + 1) listed a w := by
  refine wpAnyH_ready hr hne ?_
  clear hr hne
  induction rs with
  | nil => exact AllReadyH.nil
  | cons i rs ih =>
    obtain ⟨⟨hw, h1⟩, h2⟩ := h
    cases ho : ops[i]? with
    | none => rw [ho] at hw; cases hw
    | some o =>
      refine AllReadyH.cons ho (fun K hK => ?_) (ih h2)
      rw [ho] at hw
      simp only [Option.map_some, Option.some.injEq] at hw
      rw [if_pos hw]
      have := h1 K hK
      rw [ho] at this
      exact this
end
end Go.Proofs.YtdbifbgjbfnfmaaGreatDoor
