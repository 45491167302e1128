/-
  Layer 6 (post): Union, the program's and the document's.
-/
import Derived.Test.YtalhjejbaembbaaPostUse
import Derived.Test.YtalhjejbaembbaaInts
namespace Go.Proofs.Ytalhjejbaembbaa
open Go.RowKit Go.Deep
set_option linter.unusedVariables false
set_option linter.unusedSimpArgs false
theorem LsAt.taken {w : World} {A : Option Addr} {n cap : Nat} {L : List (List Int)} (h : LsAt w A n cap L) (k : Nat) (hk : k ≤ n) : LsAt w A k cap (L.take k) := by
  have h1 := h.1
  have h2 := h.2.1
  refine ⟨by rw [List.length_take]; omega, by omega, fun i hi => ?_⟩
  rw [List.length_take] at hi
  have h3 := h.2.2 i (by omega)
  have e : (L.take k)[i]'(by rw [List.length_take]; omega) = L[i]'(by omega) := by simp
  rw [e]
  exact h3
theorem LsAt.dropped {w : World} {A : Option Addr} {n cap : Nat} {L : List (List Int)} (h : LsAt w A n cap L) (k : Nat) (hk : k ≤ n) : LsAt w (if cap = k then A else A.map (·.add k)) (n - k) (cap - k) (L.drop k) := by
  have h1 := h.1
  have h2 := h.2.1
  refine ⟨by rw [List.length_drop, h1], by omega, fun i hi => ?_⟩
  rw [List.length_drop] at hi
  obtain ⟨ad, Ai, ci, rfl, b1, b2, b3, b4⟩ := h.2.2 (k + i) (by omega)
  rw [if_neg (show ¬ cap = k by omega)]
  have ea : (ad.add k).add i = ad.add (k + i) := by
    cases i with
    | zero => rfl
    | succ i => cases k with
      | zero => simp [Addr.add]
      | succ k => simp [Addr.add]; omega
  have e : (L.drop k)[i]'(by rw [List.length_drop]; omega) = L[k + i]'(by omega) := by simp
  rw [e]
  exact ⟨_, Ai, ci, rfl, by rw [ea]; exact b1, by rw [ea]; exact b2, b3, b4⟩
/-- How many integers stand in lists. -/
def allLen (L : List (List Int)) : Nat := (L.map List.length).sum
theorem allLen_cut (L : List (List Int)) (k : Nat) : allLen (L.take k) + allLen (L.drop k) = allLen L := by
  unfold allLen
  rw [← List.sum_append, ← List.map_append, List.take_append_drop]
/-- A list that has what one of lists has, and rises. -/
def IsUnion (L : List (List Int)) (u : List Int) : Prop := Up u ∧ (∀ x, x ∈ u ↔ ∃ l ∈ L, x ∈ l) ∧ u.length ≤ allLen L
theorem union_two {L : List (List Int)} {k : Nat} {u v : List Int} (hu : IsUnion (L.take k) u) (hv : IsUnion (L.drop k) v) : IsUnion L (mergeL fOr u v) := by
  refine ⟨up_merge _ _ _ hu.1 hv.1, fun x => ?_, ?_⟩
  · rw [mem_or hu.1 hv.1, hu.2.1, hv.2.1]
    constructor
    · rintro (⟨l, hl, hx⟩ | ⟨l, hl, hx⟩)
      · exact ⟨l, List.mem_of_mem_take hl, hx⟩
      · exact ⟨l, List.mem_of_mem_drop hl, hx⟩
    · rintro ⟨l, hl, hx⟩
      rw [← List.take_append_drop k L] at hl
      rcases List.mem_append.1 hl with hl | hl
      · exact .inl ⟨l, hl, hx⟩
      · exact .inr ⟨l, hl, hx⟩
  · have h1 := len_merge fOr u v
    have h2 := allLen_cut L k
    have h3 := hu.2.2
    have h4 := hv.2.2
    omega
theorem union_one {l : List Int} (h : Up l) : IsUnion [l] (mergeL fOr l []) := by
  refine ⟨up_merge _ _ _ h (by simp), fun x => ?_, ?_⟩
  · rw [mem_or h (by simp)]; simp
  · have := len_merge fOr l []; simpa [allLen] using this
set_option maxRecDepth 100000 in
set_option maxHeartbeats 1000000 in
theorem union_c (n : Nat) : ∀ (L : List (List Int)) (A : Option Addr) (len cap : Nat) (w : World), L.length = n → len ≤ 1000 → LsAt w A len cap L → (∀ l ∈ L, Up l) → allLen L ≤ 10000 →
    Calls Try.prog 20 #[.slice A len cap] w fun e w' => (∃ u A1 c1, e = .returned (.slice A1 u.length c1) ∧ Row w' A1 c1 u ∧ IsUnion L u) ∧ Below w.heap.size w w' := by
  induction n using Nat.strongRecOn with
  | _ n ih =>
  intro L A len cap w hn hlen hA hU hT
  have hle := hA.1
  subst hle hn
  match L with
  | [] =>
    clear ih
    go_enter Try.func20, Try.ntmps20
    go_wp2_with fail
    go_ret
    exact ⟨⟨[], none, 0, rfl, NewI.nil _ _, by simp [IsUnion, allLen]⟩, Below.refl _ _⟩
  | [l] =>
    obtain ⟨ad, A0, c0, rfl, h2, h3, h4, h5⟩ := hA.2.2 0 (by simp)
    have co := Lib.hid (or_c A0 none l.length 0 c0 0 l [] w (by simpa [allLen] using hT) (by simp) h4 (IAt.nil _ _ _))
    have HU := Lib.hid (union_one (hU l (by simp)))
    replace h3 : w.cell? ad = some (.slice A0 l.length c0) := h3
    replace h2 : ad.block < w.heap.size := h2
    clear ih
    go_enter Try.func20, Try.ntmps20
    go_wp2_with fail
    refine co.out.mono ?_
    rintro e w1 ⟨⟨v, rfl, hN⟩, hb⟩
    obtain ⟨A1, c1, rfl, _⟩ := hN.at
    have HN := Lib.hid hN
    clear hN
    go_wp2_with fail
    go_ret
    exact ⟨⟨_, A1, c1, rfl, HN.out.mono (Nat.zero_le _), HU.out⟩, hb⟩
  | l :: m :: L =>
    obtain ⟨LL, hLL⟩ : ∃ x, l :: m :: L = x := ⟨_, rfl⟩
    rw [hLL] at hU hT hlen hA ih ⊢
    have h2 : 2 ≤ LL.length := by rw [← hLL]; simp
    clear hLL
    obtain ⟨q, hq⟩ : ∃ q, LL.length / 2 = q := ⟨_, rfl⟩
    have hq1 : q < LL.length := by omega
    have hq2 : 0 < q := by omega
    have hcut := allLen_cut LL q
    have i1 := fun W (h : Below w.heap.size w W) => ih q hq1 (LL.take q) A q cap W (by rw [List.length_take]; omega) (by omega) ((hA.below h).taken q (by omega)) (fun l hl => hU l (List.mem_of_mem_take hl)) (by omega)
    obtain ⟨X, hX⟩ : ∃ X, (if cap = q then A else A.map (·.add q)) = X := ⟨_, rfl⟩
    obtain ⟨r, hr⟩ : ∃ r, LL.length - q = r := ⟨_, rfl⟩
    have i2 := fun W (h : Below w.heap.size w W) => ih r (by omega) (LL.drop q) X r (cap - q) W (by rw [List.length_drop]; exact hr) (by omega) (by have := (hA.below h).dropped q (Nat.le_of_lt hq1); rwa [hX, hr] at this) (fun l hl => hU l (List.mem_of_mem_drop hl)) (by omega)
    have hcap : LL.length ≤ cap := hA.2.1
    have dq : (LL.length : Int) / 2 = (q : Int) := by omega
    have dt : (LL.length : Int).tdiv 2 = (q : Int) := by rw [Int.tdiv_eq_ediv_of_nonneg (by omega)]; exact dq
    have t0 : ((LL.length : Int) == 0) = false := by rw [beq_eq_false_iff_ne]; omega
    have t1 : ((LL.length : Int) == 1) = false := by rw [beq_eq_false_iff_ne]; omega
    have I1 := Lib.hid i1
    have I2 := Lib.hid i2
    have HT := Lib.hid (And.intro hT hcut)
    clear ih i1 i2 hq hcut hA hU hT
    go_enter Try.func20, Try.ntmps20
    go_wp2_with fail
    go_region_with (first
      | (go_at_call_of 20 (Value.slice A q cap); refine (I1.out _ (by first | exact Below.refl _ _ | exact (Below.refl _ _).drew | exact below_drewN (Below.refl _ _) _)).mono ?_; rintro e w1 ⟨⟨u1, B1, c1, rfl, hR1, hU1⟩, hb1⟩; have hb1 : Below w.heap.size w w1 := (by first | exact hb1 | exact below_of_drew hb1); have HR1 := Lib.hid hR1; have HU1 := Lib.hid hU1; clear hR1 hU1; dsimp only)
      | (go_at_call_of 20 (Value.slice X r (cap - q)); refine (I2.out _ (by first | exact hb1 | exact hb1.drew | exact below_drewN hb1 _)).mono ?_; rintro e w2 ⟨⟨u2, B2, c2, rfl, hR2, hU2⟩, hb2⟩; have HR2 := Lib.hid hR2; have HU2 := Lib.hid hU2; clear hR2 hU2; have HR3 := Lib.hid (HR1.out.below hb2); have hb3 := below2 hb1 hb2 hb1.size; dsimp only)
      | (go_at_call 10; refine (or_u (R := mergeL fOr u1 u2) rfl (by have h1 := HU1.out.2.2; have h2 := HT.out; omega) (by have h1 := HU2.out.2.2; have h2 := HT.out; omega) HR3.out HR2.out).mono ?_; rintro e w3 ⟨⟨B3, c3, rfl, hR4⟩, hb4⟩; have HR4 := Lib.hid hR4; clear hR4; have hb5 := below2 hb3 hb4 hb3.size; have HU3 := Lib.hid (union_two HU1.out HU2.out); dsimp only))
    all_goals
      go_wp2_with fail
      go_ret
      exact ⟨⟨_, _, _, rfl, HR4.out, HU3.out⟩, hb5⟩
theorem fold_union (L : List (List Int)) (hU : ∀ l ∈ L, Up l) (hT : allLen L ≤ 10000) : IsUnion L (L.foldl (mergeL fOr) []) := by
  have h := unionL_mem L [] (by simp) hU
  refine ⟨h.1, fun x => by rw [h.2]; simp, ?_⟩
  have hl : ∀ (M : List (List Int)) (acc : List Int), (M.foldl (mergeL fOr) acc).length ≤ acc.length + allLen M := by
    intro M
    induction M with
    | nil => intro acc; simp [allLen]
    | cons m M ih =>
      intro acc
      have h1 := ih (mergeL fOr acc m)
      have h2 := len_merge fOr acc m
      simp only [allLen, List.map_cons, List.sum_cons, List.foldl_cons] at h1 ⊢
      omega
  simpa using hl L []
theorem fold_snoc (L : List (List Int)) (i : Nat) (h : i < L.length) : (L.take (i + 1)).foldl (mergeL fOr) [] = mergeL fOr ((L.take i).foldl (mergeL fOr) []) L[i] := by
  rw [List.take_succ_eq_append_getElem h, List.foldl_append]; rfl
theorem allLen_take (L : List (List Int)) (i : Nat) : allLen (L.take i) ≤ allLen L := by have := allLen_cut L i; omega
theorem len_mem {L : List (List Int)} (i : Nat) (h : i < L.length) : L[i].length ≤ allLen L := by
  have h1 := allLen_take L (i + 1)
  rw [List.take_succ_eq_append_getElem h] at h1
  simp only [allLen, List.map_append, List.sum_append, List.map_cons, List.map_nil, List.sum_cons, List.sum_nil] at h1
  unfold allLen; omega
set_option maxRecDepth 100000 in
set_option maxHeartbeats 1000000 in
theorem refUnion_c (L : List (List Int)) (A : Option Addr) (len cap : Nat) (w : World) (hlen : len ≤ 1000) (hA : LsAt w A len cap L) (hU : ∀ l ∈ L, Up l) (hT : allLen L ≤ 10000) :
    Calls Try.prog 21 #[.slice A len cap] w fun e w' => (∃ u A1 c1, e = .returned (.slice A1 u.length c1) ∧ Row w' A1 c1 u ∧ IsUnion L u) ∧ Below w.heap.size w w' := by
  have hle := hA.1
  subst hle
  go_enter Try.func21, Try.ntmps21
  go_wp2_with fail
  go_loopw [3, 4] (fun v c wr => ∃ (i : Nat) (out : List Int) (A1 : Option Addr) (cap1 : Nat), i ≤ L.length ∧ c = .int .i64 i ∧ v = .slice A1 out.length cap1 ∧ Row wr A1 cap1 out ∧ Hid (out = (L.take i).foldl (mergeL fOr) [] ∧ out.length ≤ 10000) ∧ Below w.heap.size w wr) (fun _ c _ => L.length - (intOf c).toNat)
  case atStart => exact ⟨0, [], _, _, Nat.zero_le _, rfl, rfl, NewI.empty w 0 (Nat.zero_le _), ⟨rfl, by simp⟩, (Below.refl _ w).alloc (Nat.le_refl _) _⟩
  case round =>
    obtain ⟨i, out, A1, cap1, hi, rfl, rfl, hN, HO, hb⟩ := hrel
    have hbs := hb.size
    by_cases hlt : i < L.length
    · obtain ⟨ad, Ai, ci, rfl, h2, h3, h4, h5⟩ := (hA.below hb).2.2 i hlt
      have h6 := len_mem i hlt
      have hst := fold_snoc L i hlt
      rw [← HO.out.1] at hst
      have hle := (fold_union (L.take (i + 1)) (fun l hl => hU l (List.mem_of_mem_take hl)) (Nat.le_trans (allLen_take _ _) hT)).2.2
      have hle2 := allLen_take L (i + 1)
      obtain ⟨l, hl⟩ : ∃ l, L[i]'hlt = l := ⟨_, rfl⟩
      rw [hl] at h3 h4 h5 h6 hst
      obtain ⟨R, hR⟩ : ∃ R, mergeL fOr out l = R := ⟨_, rfl⟩
      have co := Lib.hid (refOr_c A1 Ai out.length l.length cap1 ci out l wr HO.out.2 (by omega) hN.at h4)
      rw [hR] at hst co
      have HR : Hid (R = (L.take (i + 1)).foldl (mergeL fOr) [] ∧ R.length ≤ 10000) := ⟨hst.symm, by rw [← hst]; omega⟩
      clear hst hle hle2 hl h4 h5 h6 hN hR
      go_wp2_with fail
      refine co.out.mono ?_
      rintro e w1 ⟨⟨v, rfl, hN⟩, hb1⟩
      obtain ⟨A2, c2, rfl, _⟩ := hN.at
      have HN := Lib.hid hN
      have hb2 := below2 hb hb1 hbs
      clear hN h3
      go_wp2_with fail
      go_roundw
      case rel => exact ⟨i + 1, R, A2, c2, by omega, by go_num, rfl, HN.out.mono (Nat.zero_le _), HR.out, hb2⟩
      case measure => simp [intOf]; omega
    · obtain rfl : i = L.length := by omega
      have e := fold_union L hU hT
      have e2 : out = L.foldl (mergeL fOr) [] := by rw [HO.out.1, List.take_length]
      rw [← e2] at e
      have HE := Lib.hid e
      have HN := Lib.hid hN
      clear e e2 hN
      go_wp2_with fail
      go_ret
      exact ⟨⟨_, _, _, rfl, HN.out, HE.out⟩, hb⟩
end Go.Proofs.Ytalhjejbaembbaa
