/-
  Layer 8 (frame): frames and what is scanned, plain: one meaning, cut off, changed, joined. No program is named.
-/
import Derived.Test.YtfhcjlmolneooaaDoorFramePure
import Derived.Test.YtfhcjlmolneooaaDoorZigPure
namespace Go.Proofs.YtfhcjlmolneooaaDoor
set_option linter.unusedVariables false
set_option linter.unusedSimpArgs false
/-- A text's frame. -/
def sumB (t : List UInt8) : List UInt8 := [UInt8.ofNat (crcL t / 256), UInt8.ofNat (crcL t % 256)]
def frameL (t : List UInt8) : List UInt8 := tx t ++ sumB t
abbrev Short (t : List UInt8) : Prop := t.length < 18446744073709551616
theorem sumB_len (t : List UInt8) : (sumB t).length = 2 := rfl
theorem sumB_inj {a b : List UInt8} (h : sumB a = sumB b) : crcL a = crcL b := by
  have ha := crcL_lt a
  have hb := crcL_lt b
  unfold sumB at h
  injection h with h1 h2
  injection h2 with h2 _
  have e1 := congrArg UInt8.toNat h1
  have e2 := congrArg UInt8.toNat h2
  rw [toNat_ofNat_lt (by omega), toNat_ofNat_lt (by omega)] at e1 e2
  omega
theorem frameL_len (t : List UInt8) : (frameL t).length = (tx t).length + 2 := by simp [frameL, sumB]
theorem tx_long (t : List UInt8) : t.length < (tx t).length := by
  have := uv_pos t.length
  simp [tx]; omega
theorem frameL_long (t : List UInt8) : t.length + 3 ≤ (frameL t).length := by rw [frameL_len]; have := tx_long t; omega
theorem frameL_ne (t q : List UInt8) : frameL t ++ q ≠ [] := fun h => by
  have h1 := congrArg List.length h
  have h2 := frameL_long t
  rw [List.length_append, List.length_nil] at h1
  omega
theorem txF_inj {a b r q : List UInt8} (ha : Short a) (hb : Short b) (h : tx a ++ r = tx b ++ q) : a = b ∧ r = q := by
  have h1 := getT_tx [] r a ha
  have h2 := getT_tx [] q b hb
  simp only [List.nil_append] at h1 h2
  rw [h, h2] at h1
  injection h1 with h1 _
  subst h1
  exact ⟨rfl, List.append_cancel_left h⟩
/-- What begins with two frames begins with one. -/
theorem frameL_inj {a b r q : List UInt8} (ha : Short a) (hb : Short b) (h : frameL a ++ r = frameL b ++ q) : a = b ∧ r = q := by
  unfold frameL at h
  rw [List.append_assoc, List.append_assoc] at h
  obtain ⟨rfl, h2⟩ := txF_inj ha hb h
  exact ⟨rfl, List.append_cancel_left h2⟩
/-- Frames in a row. -/
def rowF (L : List (List UInt8)) : List UInt8 := L.flatMap frameL
theorem rowF_append (L M : List (List UInt8)) : rowF (L ++ M) = rowF L ++ rowF M := by simp [rowF]
theorem rowF_cons (t : List UInt8) (L : List (List UInt8)) : rowF (t :: L) = frameL t ++ rowF L := by simp [rowF]
theorem rowF_take (L : List (List UInt8)) (i : Nat) (h : i < L.length) : rowF (L.take (i + 1)) = rowF (L.take i) ++ frameL L[i] := by
  rw [List.take_succ_eq_append_getElem h, rowF_append]; simp [rowF]
/-- No frame stands at the beginning of r. -/
def NoF (r : List UInt8) : Prop := ∀ t q, Short t → r ≠ frameL t ++ q
/-- s is frames in a row, the texts L, and a rest at which none begins. -/
def Scans (s : List UInt8) (L : List (List UInt8)) (r : List UInt8) : Prop := (∀ t ∈ L, Short t) ∧ s = rowF L ++ r ∧ NoF r
theorem noF_nil : NoF [] := fun t q _ h => frameL_ne t q h.symm
theorem Scans.one : ∀ {L M : List (List UInt8)} {s r q : List UInt8}, Scans s L r → Scans s M q → L = M ∧ r = q
  | [], [], s, r, q, h, k => ⟨rfl, by have := h.2.1.symm.trans k.2.1; simpa [rowF] using this⟩
  | [], b :: M, s, r, q, h, k => by
    have e := h.2.1.symm.trans k.2.1
    rw [rowF_cons, List.append_assoc] at e
    exact absurd (by simpa [rowF] using e) (h.2.2 b (rowF M ++ q) (k.1 b (by simp)))
  | a :: L, [], s, r, q, h, k => by
    have e := k.2.1.symm.trans h.2.1
    rw [rowF_cons, List.append_assoc] at e
    exact absurd (by simpa [rowF] using e) (k.2.2 a (rowF L ++ r) (h.1 a (by simp)))
  | a :: L, b :: M, s, r, q, h, k => by
    have e := h.2.1.symm.trans k.2.1
    rw [rowF_cons, rowF_cons, List.append_assoc, List.append_assoc] at e
    obtain ⟨rfl, e2⟩ := frameL_inj (h.1 a (by simp)) (k.1 b (by simp)) e
    have h' : Scans (rowF L ++ r) L r := ⟨fun t ht => h.1 t (by simp [ht]), rfl, h.2.2⟩
    have k' : Scans (rowF L ++ r) M q := ⟨fun t ht => k.1 t (by simp [ht]), e2, k.2.2⟩
    obtain ⟨rfl, rfl⟩ := Scans.one h' k'
    exact ⟨rfl, rfl⟩
theorem Scans.joined {L M : List (List UInt8)} {s r : List UInt8} (h : Scans s M r) (hL : ∀ t ∈ L, Short t) : Scans (rowF L ++ s) (L ++ M) r :=
  ⟨fun t ht => (List.mem_append.1 ht).elim (hL t) (h.1 t), by rw [rowF_append, h.2.1, List.append_assoc], h.2.2⟩
theorem scans_row {L : List (List UInt8)} (hL : ∀ t ∈ L, Short t) : Scans (rowF L) L [] := ⟨hL, by simp, noF_nil⟩
/-- Cut off inside a frame. -/
theorem noF_cut {t : List UInt8} (ht : Short t) {k : Nat} (hk : k < (frameL t).length) : NoF ((frameL t).take k) := fun a q ha h => by
  have e : frameL t ++ [] = frameL a ++ (q ++ (frameL t).drop k) := by
    rw [List.append_nil, ← List.append_assoc, ← h, List.take_append_drop]
  obtain ⟨rfl, e2⟩ := frameL_inj ht ha e
  have := congrArg List.length e2
  simp only [List.length_nil, List.length_append, List.length_drop] at this
  omega
/-- Cut off anywhere. -/
theorem scans_cut {L : List (List UInt8)} (hL : ∀ t ∈ L, Short t) {m k : Nat} (hm : m ≤ L.length) (h1 : (rowF (L.take m)).length ≤ k) (h2 : m < L.length → k < (rowF (L.take (m + 1))).length) (h3 : k ≤ (rowF L).length) :
    Scans ((rowF L).take k) (L.take m) (((rowF L).take k).drop (rowF (L.take m)).length) := by
  have e : rowF L = rowF (L.take m) ++ rowF (L.drop m) := by rw [← rowF_append, List.take_append_drop]
  refine ⟨fun t ht => hL t (List.mem_of_mem_take ht), ?_, ?_⟩
  · have : ((rowF L).take k).take (rowF (L.take m)).length = rowF (L.take m) := by
      rw [List.take_take, Nat.min_eq_left h1, e, List.take_left]
    have e2 := List.take_append_drop (rowF (L.take m)).length ((rowF L).take k)
    rw [this] at e2
    exact e2.symm
  · have ed : ((rowF L).take k).drop (rowF (L.take m)).length = (rowF (L.drop m)).take (k - (rowF (L.take m)).length) := by
      rw [e, List.drop_take, List.drop_left]
    rw [ed]
    rcases Nat.lt_or_ge m L.length with hlt | hge
    · rw [List.drop_eq_getElem_cons hlt, rowF_cons]
      have h4 := h2 hlt
      rw [rowF_take L m hlt, List.length_append] at h4
      rw [List.take_append_of_le_length (by omega)]
      exact noF_cut (hL _ (List.getElem_mem hlt)) (by omega)
    · rw [List.drop_eq_nil_of_le hge]
      simp [rowF, noF_nil]
/-- One byte behind the length is another one. -/
theorem noF_changed {s : List UInt8} (hs : Short s) {a r : List UInt8} {x y : UInt8} (hne : x ≠ y) (h : s ++ sumB s = a ++ x :: r) : NoF (uv s.length ++ (a ++ y :: r)) := fun t q ht e => by
  unfold frameL tx at e
  rw [List.append_assoc, List.append_assoc] at e
  have g1 := getU_uv [] (a ++ y :: r) s.length hs
  have g2 := getU_uv [] (t ++ (sumB t ++ q)) t.length ht
  simp only [List.nil_append] at g1 g2
  rw [e, g2] at g1
  have hl : t.length = s.length := by simp only [Prod.mk.injEq] at g1; omega
  rw [hl] at e
  have e := List.append_cancel_left e
  have hlen := congrArg List.length h
  have hlen2 := congrArg List.length e
  simp only [List.length_append, List.length_cons, sumB_len] at hlen hlen2
  have hq : q = [] := List.length_eq_zero_iff.1 (by omega)
  subst hq
  rw [List.append_nil] at e
  rcases Nat.lt_or_ge a.length s.length with ha | ha
  · -- in the text
    obtain ⟨b, hb1, hb2⟩ : ∃ b, s = a ++ x :: b ∧ r = b ++ sumB s := by
      have h1 := congrArg (List.take a.length) h
      rw [List.take_append_of_le_length (by omega), List.take_left] at h1
      have h2 := congrArg (List.drop a.length) h
      rw [List.drop_append_of_le_length (by omega), List.drop_left, List.drop_eq_getElem_cons ha] at h2
      rw [List.cons_append] at h2
      injection h2 with h2 h3
      refine ⟨s.drop (a.length + 1), ?_, h3.symm⟩
      have := List.take_append_drop a.length s
      rw [List.drop_eq_getElem_cons ha, h1, h2] at this
      exact this.symm
    have ht2 : t = a ++ y :: b := by
      have h1 := congrArg (List.take t.length) e
      rw [List.take_left, hb2] at h1
      have e3 : a ++ y :: (b ++ sumB s) = (a ++ y :: b) ++ sumB s := by simp
      rw [e3, List.take_append_of_le_length (by rw [hl, hb1]; simp), List.take_of_length_le (by rw [hl, hb1]; simp)] at h1
      exact h1.symm
    have hc : sumB t = sumB s := by
      have h1 := congrArg (List.drop t.length) e
      rw [List.drop_left, hb2] at h1
      have e3 : a ++ y :: (b ++ sumB s) = t ++ sumB s := by rw [ht2]; simp
      rw [e3, List.drop_left] at h1
      exact h1.symm
    have := sumB_inj hc
    rw [ht2] at this
    rw [hb1] at this
    exact crcL_changed a b (fun e => hne e.symm) this
  · -- in the sum
    obtain ⟨c, hc1, hc2⟩ : ∃ c, a = s ++ c ∧ sumB s = c ++ x :: r := by
      have h1 := congrArg (List.take s.length) h
      rw [List.take_left, List.take_append_of_le_length ha] at h1
      refine ⟨a.drop s.length, ?_, ?_⟩
      · have := (List.take_append_drop s.length a).symm
        rw [← h1] at this
        exact this
      · have h2 := congrArg (List.drop s.length) h
        rw [List.drop_left, List.drop_append_of_le_length ha] at h2
        exact h2
    have ht2 : t = s := by
      have h1 := congrArg (List.take s.length) e
      rw [hc1, List.append_assoc, List.take_left, ← hl, List.take_left] at h1
      exact h1.symm
    subst ht2
    rw [hc1, List.append_assoc] at e
    have e := List.append_cancel_left e
    rw [hc2] at e
    rw [List.append_nil] at e
    have e := List.append_cancel_left e
    have e := List.append_cancel_left e
    injection e with e
    exact hne e.symm
end Go.Proofs.YtfhcjlmolneooaaDoor
