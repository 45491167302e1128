/-
  Layer 5 (match): how a text is taken apart into matchers, plain. No program is named.
-/
import Derived.Test.YtopnnhjfcfhihaaDoorMatchText
import Derived.Test.YtopnnhjfcfhihaaDoorLabelParse
namespace Go.Proofs.YtopnnhjfcfhihaaDoor
open Go.RowKit Go.Deep
set_option linter.unusedVariables false
set_option linter.unusedSimpArgs false

/-! what stands behind the first -/
def tailQ (r : List (List UInt8)) : List UInt8 := r.flatMap fun v => 124 :: quoteL v
def tailM (r : List Mat) : List UInt8 := r.flatMap fun m => 44 :: textM m
theorem joinQ_cons (v : List UInt8) (r : List (List UInt8)) : joinQ (v :: r) = quoteL v ++ tailQ r := by
  unfold joinQ tailQ
  rw [List.map_cons, Lib.join_cons]
  simp [Lib.joinTail, List.flatMap, List.map_map, Function.comp_def]
theorem partsM_cons (m : Mat) (r : List Mat) : partsM (m :: r) = textM m ++ tailM r := by
  unfold partsM tailM
  rw [List.map_cons, Lib.join_cons]
  simp [Lib.joinTail, List.flatMap, List.map_map, Function.comp_def]
theorem scan_quoteL (v X : List UInt8) : scan ((quoteL v ++ X).drop 1) = some (v, X) := by
  unfold quoteL
  simp only [List.cons_append, List.drop_succ_cons, List.drop_zero, List.append_assoc, List.nil_append]
  exact scan_quote v X

/-! quotes -/
/-- The place behind the quotes with which s begins. -/
def endL (s : List UInt8) : Nat := match scan (s.drop 1) with | some (_, b) => s.length - b.length | none => 0
theorem endL_le (s : List UInt8) : endL s ≤ s.length := by unfold endL; split <;> omega
theorem endL_quote (v X : List UInt8) : endL (quoteL v ++ X) = (quoteL v).length := by
  unfold endL; rw [scan_quoteL]; simp
/-- What unquote answers. -/
noncomputable def unqM (s : List UInt8) : Option (List UInt8) := if s = quoteL [] then some [] else match parseL (123 :: 97 :: 61 :: (s ++ [125])) with | some (x :: _) => some x.2 | _ => none
theorem unq_print (s v : List UInt8) : printL [([97], v)] = 123 :: 97 :: 61 :: (quoteL v ++ [125]) := by
  simp [printL, printB, partL, tailB]
theorem unqM_quote {v : List UInt8} (h : valueL v = true) : unqM (quoteL v) = some v := by
  unfold unqM
  by_cases hv : v = []
  · subst hv; rw [if_pos rfl]
  · rw [if_neg (fun e => hv (quoteL_inj e))]
    have hok : okL [([97], v)] = true := by
      rw [okL_of (by simp)]
      have hn : nameL [97] = true := by decide
      have hl : Op.bytesLess [] [97] = true := rfl
      have hv' : (v == []) = false := by rw [beq_eq_false_iff_ne]; exact hv
      simp only [okFrom, hn, h, hl, hv']
      rfl
    rw [parseL_some hok (unq_print [] v)]
theorem unqM_value {s v : List UInt8} (h : unqM s = some v) : valueL v = true := by
  unfold unqM at h
  by_cases hs : s = quoteL []
  · rw [if_pos hs] at h; injection h with h; subst h; rfl
  · rw [if_neg hs] at h
    cases hp : parseL (123 :: 97 :: 61 :: (s ++ [125])) with
    | none => rw [hp] at h; cases h
    | some l =>
      rw [hp] at h
      cases l with
      | nil => cases h
      | cons x r =>
        injection h with h
        subst h
        exact (okL_mem (parseL_of hp).1 x (by simp)).2.1
/-- What may stand behind quotes. -/
def okT (t : List UInt8) : Prop := t = [] ∨ ∃ r, t = 44 :: r
def okQ (vs : List (List UInt8)) (t : List UInt8) : Prop := vs ≠ [] ∧ (∀ v ∈ vs, valueL v = true) ∧ okT t
/-- The only values of which s could begin with the quotes: acc, and those of which rest does. -/
def GoesQ (s : List UInt8) (acc : List (List UInt8)) (rest : List UInt8) : Prop := ∀ vs t, okQ vs t → joinQ vs ++ t = s → ∃ r, vs = acc ++ r ∧ r ≠ [] ∧ joinQ r ++ t = rest
theorem GoesQ.start (s : List UInt8) : GoesQ s [] s := fun vs t h e => ⟨vs, rfl, h.1, e⟩
theorem GoesQ.more {s : List UInt8} {acc : List (List UInt8)} {rest : List UInt8} (h : GoesQ s acc rest) : ∀ vs t, okQ vs t → joinQ vs ++ t = s → ∃ v r, vs = acc ++ v :: r ∧ valueL v = true ∧ rest = quoteL v ++ (tailQ r ++ t) := by
  intro vs t hq he
  obtain ⟨r, h1, h2, h3⟩ := h vs t hq he
  cases r with
  | nil => exact absurd rfl h2
  | cons v r => exact ⟨v, r, h1, hq.2.1 v (by rw [h1]; simp), by rw [← h3, joinQ_cons, List.append_assoc]⟩
/-- What is cut off is read; what stands behind it. -/
theorem GoesQ.read {s : List UInt8} {acc : List (List UInt8)} {rest : List UInt8} (h : GoesQ s acc rest) : ∀ vs t, okQ vs t → joinQ vs ++ t = s → ∃ v r, vs = acc ++ v :: r ∧ unqM (rest.take (endL rest)) = some v ∧ rest.drop (endL rest) = tailQ r ++ t := by
  intro vs t hq he
  obtain ⟨v, r, h1, h2, h3⟩ := h.more vs t hq he
  refine ⟨v, r, h1, ?_, ?_⟩
  · rw [h3, endL_quote, List.take_left]; exact unqM_quote h2
  · rw [h3, endL_quote, List.drop_left]
theorem GoesQ.bad {s : List UInt8} {acc : List (List UInt8)} {rest : List UInt8} (h : GoesQ s acc rest) (hu : unqM (rest.take (endL rest)) = none) : ∀ vs t, okQ vs t → joinQ vs ++ t ≠ s := by
  intro vs t hq he
  obtain ⟨v, r, _, h2, _⟩ := h.read vs t hq he
  rw [hu] at h2; cases h2
theorem GoesQ.last {s : List UInt8} {acc : List (List UInt8)} {rest u : List UInt8} (h : GoesQ s acc rest) (hu : unqM (rest.take (endL rest)) = some u) (hp : Lib.hasPrefix (rest.drop (endL rest)) [124] = false) :
    ∀ vs t, okQ vs t → joinQ vs ++ t = s → vs = acc ++ [u] ∧ t = rest.drop (endL rest) := by
  intro vs t hq he
  obtain ⟨v, r, h1, h2, h3⟩ := h.read vs t hq he
  rw [hu] at h2
  injection h2 with h2
  subst h2
  cases r with
  | nil => exact ⟨h1, by rw [h3]; rfl⟩
  | cons x r =>
    rw [h3] at hp
    simp [tailQ, Lib.hasPrefix, List.isPrefixOf] at hp
theorem GoesQ.step {s : List UInt8} {acc : List (List UInt8)} {rest u : List UInt8} (h : GoesQ s acc rest) (hu : unqM (rest.take (endL rest)) = some u) (hp : Lib.hasPrefix (rest.drop (endL rest)) [124] = true) :
    GoesQ s (acc ++ [u]) (Lib.trimPrefix (rest.drop (endL rest)) [124]) := by
  intro vs t hq he
  obtain ⟨v, r, h1, h2, h3⟩ := h.read vs t hq he
  rw [hu] at h2
  injection h2 with h2
  subst h2
  cases r with
  | nil =>
    rw [h3] at hp
    rcases hq.2.2 with ht | ⟨x, ht⟩
    · subst ht; simp [tailQ, Lib.hasPrefix] at hp
    · subst ht; simp [tailQ, Lib.hasPrefix, List.isPrefixOf] at hp
  | cons x r =>
    refine ⟨x :: r, by rw [h1]; simp, by simp, ?_⟩
    rw [h3, joinQ_cons]
    simp [tailQ, Lib.trimPrefix, Lib.hasPrefix, List.isPrefixOf]
theorem trimP_drop {s : List UInt8} {c : UInt8} (h : Lib.hasPrefix s [c] = true) : (Lib.trimPrefix s [c]).length + 1 ≤ s.length := by
  unfold Lib.trimPrefix
  rw [if_pos h]
  unfold Lib.hasPrefix at h
  rw [List.isPrefixOf_iff_prefix] at h
  have := h.length_le
  simp at this ⊢
  omega

/-! a sign -/
theorem index_hit (a : UInt8) (r X : List UInt8) : ∀ p : List UInt8, (∀ c ∈ p, c ≠ a) → Lib.index (p ++ ((a :: r) ++ X)) (a :: r) = p.length
  | [], _ => by
    rw [List.nil_append, List.cons_append, Lib.index]
    have : (a :: r).isPrefixOf (a :: (r ++ X)) = true := by rw [List.isPrefixOf_iff_prefix]; exact ⟨X, rfl⟩
    rw [this]; simp
  | b :: p, h => by
    have hb : b ≠ a := h b (by simp)
    rw [List.cons_append, Lib.index]
    have hn : (a :: r).isPrefixOf (b :: (p ++ ((a :: r) ++ X))) = false := by
      simp only [List.isPrefixOf]
      have : (a == b) = false := by rw [beq_eq_false_iff_ne]; exact fun e => hb e.symm
      rw [this]; rfl
    rw [hn, index_hit a r X p (fun c hc => h c (by simp [hc]))]
    have : ((p.length : Int) == -1) = false := by rw [beq_eq_false_iff_ne]; omega
    rw [this]
    simp
theorem cut_hit (a : UInt8) (r X p : List UInt8) (h : ∀ c ∈ p, c ≠ a) : Lib.cut (p ++ ((a :: r) ++ X)) (a :: r) = (p, X, true) := by
  unfold Lib.cut
  rw [index_hit a r X p h, if_pos (by omega), Int.toNat_natCast]
  rw [List.take_left]
  congr 2
  rw [← List.drop_drop, List.drop_left, List.drop_left]
theorem index_far (a k : UInt8) (r Y : List UInt8) (hk : k ≠ a) : ∀ p : List UInt8, (∀ c ∈ p, c ≠ a) → Lib.index (p ++ k :: Y) (a :: r) = -1 ∨ (p.length + 1 : Int) ≤ Lib.index (p ++ k :: Y) (a :: r)
  | [], _ => by
    rw [List.nil_append, Lib.index]
    have hn : (a :: r).isPrefixOf (k :: Y) = false := by
      simp only [List.isPrefixOf]
      have : (a == k) = false := by rw [beq_eq_false_iff_ne]; exact fun e => hk e.symm
      rw [this]; rfl
    rw [hn]
    have hge := Lib.index_ge Y (a :: r)
    by_cases h1 : Lib.index Y (a :: r) = -1
    · left; rw [h1]; simp
    · right
      have hb : (Lib.index Y (a :: r) == -1) = false := by rw [beq_eq_false_iff_ne]; exact h1
      rw [hb]
      simp only [Bool.false_eq_true, if_false, List.length_nil]
      omega
  | b :: p, h => by
    have hb : b ≠ a := h b (by simp)
    rw [List.cons_append, Lib.index]
    have hn : (a :: r).isPrefixOf (b :: (p ++ k :: Y)) = false := by
      simp only [List.isPrefixOf]
      have : (a == b) = false := by rw [beq_eq_false_iff_ne]; exact fun e => hb e.symm
      rw [this]; rfl
    rw [hn]
    rcases index_far a k r Y hk p (fun c hc => h c (by simp [hc])) with h1 | h1
    · left; rw [h1]; simp
    · right
      have hb : (Lib.index (p ++ k :: Y) (a :: r) == -1) = false := by rw [beq_eq_false_iff_ne]; omega
      rw [hb]
      simp only [Bool.false_eq_true, if_false, List.length_cons]
      omega
theorem cut_far {a k : UInt8} {r Y p n q : List UInt8} (hk : k ≠ a) (h : ∀ c ∈ p, c ≠ a) (hkn : nameC k = false) (hc : Lib.cut (p ++ k :: Y) (a :: r) = (n, q, true)) : nameL n = false := by
  unfold Lib.cut at hc
  rcases index_far a k r Y hk p h with h1 | h1
  · rw [h1] at hc; simp at hc
  · rw [if_pos (by omega)] at hc
    injection hc with hc _
    have hin : k ∈ n := by
      rw [← hc]
      obtain ⟨j, hj⟩ : ∃ j : Nat, (Lib.index (p ++ k :: Y) (a :: r)).toNat = p.length + (j + 1) := ⟨(Lib.index (p ++ k :: Y) (a :: r)).toNat - p.length - 1, by omega⟩
      rw [hj, List.take_length_add_append]
      simp
    cases hN : nameL n with
    | false => rfl
    | true => have := nameL_all hN k hin; rw [hkn] at this; cases this
theorem nameL_ne_of {n : List UInt8} (h : nameL n = true) {a : UInt8} (ha : nameC a = false) : ∀ c ∈ n, c ≠ a := fun c hc e => by
  have := nameL_all h c hc
  rw [e, ha] at this; cases this
theorem cut_len {s p n q : List UInt8} (h : Lib.cut s p = (n, q, true)) : n.length + q.length ≤ s.length := by
  unfold Lib.cut at h
  split at h
  · injection h with h1 h2
    injection h2 with h2 _
    subst h1 h2
    simp only [List.length_take, List.length_drop]
    omega
  · injection h with _ h; injection h with _ h; cases h
/-- A matcher's own sign is found behind its name. -/
theorem sign_here {m : Mat} {t : List UInt8} (hm : chkL m = true) : Lib.cut (textM m ++ t) (signL m.1) = (m.2.1, bodyL m ++ t, true) := by
  have hn := (chkL_is hm).1
  have hk := chkL_kind hm
  have hs : ∃ a r, signL m.1 = a :: r ∧ nameC a = false := by
    unfold signL
    by_cases h0 : m.1 = 0
    · rw [if_pos h0]; exact ⟨_, _, rfl, by decide⟩
    rw [if_neg h0]
    by_cases h1 : m.1 = 1
    · rw [if_pos h1]; exact ⟨_, _, rfl, by decide⟩
    rw [if_neg h1]
    by_cases h2 : m.1 = 2
    · rw [if_pos h2]; exact ⟨_, _, rfl, by decide⟩
    rw [if_neg h2]; exact ⟨_, _, rfl, by decide⟩
  obtain ⟨a, r, e, ha⟩ := hs
  unfold textM
  rw [e, List.append_assoc, List.append_assoc]
  exact cut_hit a r _ _ (nameL_ne_of hn ha)
/-- The sign of a lower kind is not found behind a name. -/
theorem sign_far {m : Mat} {t n q : List UInt8} {k : Int} (hm : chkL m = true) (h0 : 0 ≤ k) (hk : k < m.1) (hc : Lib.cut (textM m ++ t) (signL k) = (n, q, true)) : nameL n = false := by
  have hn := (chkL_is hm).1
  have hk3 := chkL_kind hm
  unfold textM at hc
  rw [List.append_assoc, List.append_assoc] at hc
  by_cases k0 : k = 0
  · subst k0
    have e : signL 0 = [61] := rfl
    rw [e] at hc
    by_cases h1 : m.1 = 1
    · rw [h1, show signL 1 = [33, 61] from rfl] at hc
      exact cut_far (k := 33) (a := 61) (by decide) (nameL_ne_of hn (by decide)) (by decide) hc
    by_cases h2 : m.1 = 2
    · rw [h2, show signL 2 = [94, 61] from rfl] at hc
      exact cut_far (k := 94) (a := 61) (by decide) (nameL_ne_of hn (by decide)) (by decide) hc
    · rw [show m.1 = 3 by omega, show signL 3 = [64, 61] from rfl] at hc
      exact cut_far (k := 64) (a := 61) (by decide) (nameL_ne_of hn (by decide)) (by decide) hc
  by_cases k1 : k = 1
  · subst k1
    have e : signL 1 = [33, 61] := rfl
    rw [e] at hc
    by_cases h2 : m.1 = 2
    · rw [h2, show signL 2 = [94, 61] from rfl] at hc
      exact cut_far (k := 94) (a := 33) (by decide) (nameL_ne_of hn (by decide)) (by decide) hc
    · rw [show m.1 = 3 by omega, show signL 3 = [64, 61] from rfl] at hc
      exact cut_far (k := 64) (a := 33) (by decide) (nameL_ne_of hn (by decide)) (by decide) hc
  have k2 : k = 2 := by omega
  subst k2
  have e : signL 2 = [94, 61] := rfl
  rw [e, show m.1 = 3 by omega, show signL 3 = [64, 61] from rfl] at hc
  exact cut_far (k := 64) (a := 94) (by decide) (nameL_ne_of hn (by decide)) (by decide) hc
/-- What is behind the sign is quotes. -/
def valsL (m : Mat) : List (List UInt8) := if m.1 = 3 then m.2.2.2 else [m.2.2.1]
theorem body_vals (m : Mat) : bodyL m = joinQ (valsL m) := by
  unfold bodyL valsL
  split
  · rfl
  · unfold joinQ; rw [List.map_singleton, Lib.join_one]
theorem vals_ok {m : Mat} {t : List UInt8} (hm : chkL m = true) (ht : okT t) : okQ (valsL m) t := by
  obtain ⟨_, h | h⟩ := chkL_is hm
  · unfold valsL
    rw [if_pos h.1]
    refine ⟨fun e => ?_, setL_mem h.2.2, ht⟩
    have := (setL_len h.2.2).1
    rw [e] at this; simp at this
  · unfold valsL
    rw [if_neg (by omega)]
    exact ⟨by simp, fun v hv => by simp at hv; rw [hv]; exact h.2.2.1, ht⟩
/-- The matcher of a kind, a name and values. -/
def matOf (k : Int) (n : List UInt8) (vs : List (List UInt8)) : Mat := if k = 3 then (k, n, [], vs) else (k, n, vs.headD [], [])
theorem matOf_is {m : Mat} (hm : chkL m = true) : m = matOf m.1 m.2.1 (valsL m) := by
  obtain ⟨_, h | h⟩ := chkL_is hm
  · unfold matOf valsL
    rw [if_pos h.1, if_pos h.1]
    obtain ⟨k, n, v, s⟩ := m
    simp only at h ⊢
    rw [h.2.1]
  · unfold matOf valsL
    rw [if_neg (by omega), if_neg (by omega)]
    obtain ⟨k, n, v, s⟩ := m
    simp only at h ⊢
    rw [h.2.2.2]; rfl

/-! the first matcher -/
/-- No matcher below this kind begins s. -/
def From (s : List UInt8) (k : Int) : Prop := ∀ m t, chkL m = true → okT t → textM m ++ t = s → k ≤ m.1
theorem From.zero (s : List UInt8) : From s 0 := fun m _ hm _ _ => (chkL_kind hm).1
theorem From.none {s : List UInt8} {k : Int} (h : From s k) (hk : 3 < k) : ∀ m t, chkL m = true → okT t → textM m ++ t ≠ s := fun m t hm ht e => by
  have := h m t hm ht e
  have := (chkL_kind hm).2
  omega
theorem From.up {s : List UInt8} {k : Int} (h : From s k) (hno : ∀ n q, Lib.cut s (signL k) = (n, q, true) → nameL n = false) : From s (k + 1) := fun m t hm ht e => by
  have h1 := h m t hm ht e
  by_cases hk : m.1 = k
  · have h2 := sign_here (t := t) hm
    rw [e, hk] at h2
    have h3 := hno _ _ h2
    rw [(chkL_is hm).1] at h3; cases h3
  · omega
/-- A sign behind a name settles the kind, the name and what is read. -/
theorem From.here {s n q : List UInt8} {k : Int} (h : From s k) (h0 : 0 ≤ k) (hc : Lib.cut s (signL k) = (n, q, true)) (hn : nameL n = true) : ∀ m t, chkL m = true → okT t → textM m ++ t = s → m = matOf k n (valsL m) ∧ joinQ (valsL m) ++ t = q := fun m t hm ht e => by
  have h1 := h m t hm ht e
  have hk : m.1 = k := by
    by_cases hk : m.1 = k
    · exact hk
    · have := sign_far hm h0 (k := k) (by omega) (by rw [e]; exact hc)
      rw [hn] at this; cases this
  have h2 := sign_here (t := t) hm
  rw [e, hk, hc] at h2
  injection h2 with h3 h4
  injection h4 with h4 _
  refine ⟨?_, by rw [h4, body_vals]⟩
  have := matOf_is hm
  rw [hk, ← h3] at this
  exact this

/-! all matchers -/
def GoesM (s : List UInt8) (acc : List Mat) (rest : List UInt8) : Prop := ∀ L, okMs L = true → printM L = s → ∃ r, L = acc ++ r ∧ partsM r = rest
theorem trim_printM (l : List Mat) : Lib.trimSuffix (Lib.trimPrefix (printM l) [91]) [93] = partsM l := by
  have e1 : Lib.trimPrefix (printM l) [91] = partsM l ++ [93] := by
    simp [printM, Lib.trimPrefix, Lib.hasPrefix, List.isPrefixOf]
  rw [e1]
  have e2 : Lib.hasSuffix (partsM l ++ [93]) [93] = true := by
    unfold Lib.hasSuffix
    rw [List.isSuffixOf_iff_suffix]
    exact ⟨partsM l, rfl⟩
  unfold Lib.trimSuffix
  rw [if_pos e2]
  simp
theorem textM_ne {m : Mat} (h : chkL m = true) : textM m ≠ [] := fun e => by
  have hn := nameL_ne (chkL_is h).1
  unfold textM at e
  cases hm : m.2.1 with
  | nil => exact hn hm
  | cons c r => rw [hm] at e; simp at e
theorem GoesM.start (s : List UInt8) : GoesM s [] (Lib.trimSuffix (Lib.trimPrefix s [91]) [93]) := by
  rintro L hL rfl
  exact ⟨L, rfl, (trim_printM L).symm⟩
theorem GoesM.done {s : List UInt8} {acc : List Mat} (h : GoesM s acc []) : ∀ L, okMs L = true → printM L = s → L = acc := by
  intro L hL hs
  obtain ⟨r, h1, h2⟩ := h L hL hs
  cases r with
  | nil => simpa using h1
  | cons x r =>
    have hx := okMs_mem hL x (by rw [h1]; simp)
    rw [partsM_cons] at h2
    exact absurd (List.append_eq_nil_iff.1 h2).1 (textM_ne hx)
theorem tailM_ok (r : List Mat) : okT (tailM r) := by
  cases r with
  | nil => exact .inl rfl
  | cons m r => exact .inr ⟨_, rfl⟩
theorem GoesM.more {s : List UInt8} {acc : List Mat} {rest : List UInt8} (h : GoesM s acc rest) (hne : rest ≠ []) : ∀ L, okMs L = true → printM L = s → ∃ m r, L = acc ++ m :: r ∧ chkL m = true ∧ textM m ++ tailM r = rest := by
  intro L hL hs
  obtain ⟨r, h1, h2⟩ := h L hL hs
  cases r with
  | nil => exact absurd h2.symm hne
  | cons m r => exact ⟨m, r, h1, okMs_mem hL m (by rw [h1]; simp), by rw [← h2, partsM_cons]⟩
theorem GoesM.bad {s : List UInt8} {acc : List Mat} {rest : List UInt8} (h : GoesM s acc rest) (hne : rest ≠ []) (hf : ∀ m t, chkL m = true → okT t → textM m ++ t ≠ rest) : ∀ L, okMs L = true → printM L ≠ s := by
  intro L hL hs
  obtain ⟨m, r, _, h2, h3⟩ := h.more hne L hL hs
  exact hf m _ h2 (tailM_ok r) h3
theorem GoesM.full {s : List UInt8} {acc : List Mat} {rest : List UInt8} (h : GoesM s acc rest) (hne : rest ≠ []) (ha : acc.length = 8) : ∀ L, okMs L = true → printM L ≠ s := by
  intro L hL hs
  obtain ⟨m, r, h1, _, _⟩ := h.more hne L hL hs
  have := okMs_len hL
  rw [h1] at this
  simp at this
  omega
theorem GoesM.step {s : List UInt8} {acc : List Mat} {rest : List UInt8} {x : Mat} {b : List UInt8} (h : GoesM s acc rest) (hne : rest ≠ []) (hf : ∀ m t, chkL m = true → okT t → textM m ++ t = rest → m = x ∧ t = b) : GoesM s (acc ++ [x]) (Lib.trimPrefix b [44]) := by
  intro L hL hs
  obtain ⟨m, r, h1, h2, h3⟩ := h.more hne L hL hs
  obtain ⟨rfl, rfl⟩ := hf m _ h2 (tailM_ok r) h3
  refine ⟨r, by rw [h1]; simp, ?_⟩
  cases r with
  | nil => rfl
  | cons y r =>
    rw [partsM_cons]
    simp [tailM, Lib.trimPrefix, Lib.hasPrefix, List.isPrefixOf]
end Go.Proofs.YtopnnhjfcfhihaaDoor
