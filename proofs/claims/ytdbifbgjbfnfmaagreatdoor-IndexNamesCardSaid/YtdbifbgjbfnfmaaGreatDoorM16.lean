/-
  Texts of the same seat, one behind the other (merged; each says at its head what it is).
-/
import Derived.Test.YtdbifbgjbfnfmaaGreatDoorM07
import Derived.Test.YtdbifbgjbfnfmaaGreatDoorM15
import Derived.ProofKit
import Derived.OpenShut
import Derived.Deep.Slices
import Derived.Deep.Fields
import Derived.ChangeSame
import Derived.Test.YtdbifbgjbfnfmaaGreatDoorM13
/-
  Layer 6 (post): the document's And, Not and Or.
-/
namespace Go.Proofs.YtdbifbgjbfnfmaaGreatDoor
open Go.RowKit Go.Deep
set_option linter.unusedVariables false
set_option linter.unusedSimpArgs false
theorem filter_take (p : Int → Bool) (l : List Int) (i : Nat) (h : i < l.length) : (l.take (i + 1)).filter p = (l.take i).filter p ++ if p l[i] = true then [l[i]] else [] := by
  rw [List.take_succ_eq_append_getElem h, List.filter_append]
  cases hp : p l[i] <;> simp [hp]
end Go.Proofs.YtdbifbgjbfnfmaaGreatDoor
/-
  Layer 6 (post): And, Or, Not and Has.
-/
namespace Go.Proofs.YtdbifbgjbfnfmaaGreatDoor
open Go.RowKit Go.Deep
set_option linter.unusedVariables false
set_option linter.unusedSimpArgs false
theorem and_c (A A' : Option Addr) (len len' cap cap' : Nat) (l m : List Int) (w : World) (hl : l.length ≤ 10000) (hm : m.length ≤ 10000) (hA : IAt w A len cap l) (hB : IAt w A' len' cap' m) :
    Calls Tryz.prog 23 #[.slice A len cap, .slice A' len' cap'] w fun e w' => (∃ v, e = .returned v ∧ NewI w.heap.size v (mergeL fAnd l m) w') ∧ Below w.heap.size w w' := by
  have cm := Lib.hid (mergeAnd_c A A' len len' cap cap' l m w hl hm hA hB)
  go_enter Tryz.func23, Tryz.ntmps23
  go_wp2_with (first | (go_at_call 36; refine cm.out.mono ?_; rintro e w1 ⟨⟨v, rfl, hN⟩, hb⟩; have HN := Lib.hid hN; clear hN; dsimp only))
  go_ret
  exact ⟨⟨_, rfl, HN.out⟩, hb⟩
theorem or_c (A A' : Option Addr) (len len' cap cap' : Nat) (l m : List Int) (w : World) (hl : l.length ≤ 10000) (hm : m.length ≤ 10000) (hA : IAt w A len cap l) (hB : IAt w A' len' cap' m) :
    Calls Tryz.prog 66 #[.slice A len cap, .slice A' len' cap'] w fun e w' => (∃ v, e = .returned v ∧ NewI w.heap.size v (mergeL fOr l m) w') ∧ Below w.heap.size w w' := by
  have cm := Lib.hid (mergeOr_c A A' len len' cap cap' l m w hl hm hA hB)
  go_enter Tryz.func66, Tryz.ntmps66
  go_wp2_with (first | (go_at_call 36; refine cm.out.mono ?_; rintro e w1 ⟨⟨v, rfl, hN⟩, hb⟩; have HN := Lib.hid hN; clear hN; dsimp only))
  go_ret
  exact ⟨⟨_, rfl, HN.out⟩, hb⟩
theorem not_c (A A' : Option Addr) (len len' cap cap' : Nat) (l m : List Int) (w : World) (hl : l.length ≤ 10000) (hm : m.length ≤ 10000) (hA : IAt w A len cap l) (hB : IAt w A' len' cap' m) :
    Calls Tryz.prog 65 #[.slice A len cap, .slice A' len' cap'] w fun e w' => (∃ v, e = .returned v ∧ NewI w.heap.size v (mergeL fNot l m) w') ∧ Below w.heap.size w w' := by
  have cm := Lib.hid (mergeNot_c A A' len len' cap cap' l m w hl hm hA hB)
  go_enter Tryz.func65, Tryz.ntmps65
  go_wp2_with (first | (go_at_call 36; refine cm.out.mono ?_; rintro e w1 ⟨⟨v, rfl, hN⟩, hb⟩; have HN := Lib.hid hN; clear hN; dsimp only))
  go_ret
  exact ⟨⟨_, rfl, HN.out⟩, hb⟩
end Go.Proofs.YtdbifbgjbfnfmaaGreatDoor
/-
  Layer 6 (post): the functions' contracts over rows of the call's own, as the laws use them.
-/
namespace Go.Proofs.YtdbifbgjbfnfmaaGreatDoor
open Go.RowKit Go.Deep
set_option linter.unusedVariables false
set_option linter.unusedSimpArgs false
/-- A row that is anywhere. -/
abbrev Row (w : World) (A : Option Addr) (cap : Nat) (l : List Int) : Prop := NewI 0 (.slice A l.length cap) l w
theorem Row.at {w : World} {A : Option Addr} {cap : Nat} {l : List Int} (h : Row w A cap l) : IAt w A l.length cap l := by
  obtain ⟨A1, c1, e, hI⟩ := NewI.at h
  injection e with e1 e2 e3
  subst e1 e3
  exact hI
theorem Row.below {w w' : World} {A : Option Addr} {cap : Nat} {l : List Int} (h : Row w A cap l) (hb : Below w.heap.size w w') : Row w' A cap l := NewI.below h hb
/-- What a call that makes a row answers. -/
abbrev Makes (w : World) (R : List Int) (e : Ending) (w' : World) : Prop := (∃ A c, e = .returned (.slice A R.length c) ∧ Row w' A c R) ∧ Below w.heap.size w w'
theorem makes_of {w w' : World} {R : List Int} {e : Ending} {v : Value} {B : Nat} (he : e = .returned v) (hN : NewI B v R w') (hb : Below w.heap.size w w') : Makes w R e w' := by
  obtain ⟨A1, c1, rfl, _⟩ := hN.at
  exact ⟨⟨A1, c1, he, hN.mono (Nat.zero_le _)⟩, hb⟩
theorem and_u {A A' : Option Addr} {cap cap' : Nat} {l m R : List Int} {w : World} (hR : mergeL fAnd l m = R) (hl : l.length ≤ 10000) (hm : m.length ≤ 10000) (hA : Row w A cap l) (hB : Row w A' cap' m) :
    Calls Tryz.prog 23 #[.slice A l.length cap, .slice A' m.length cap'] w (Makes w R) := by
  subst hR
  refine (and_c A A' l.length m.length cap cap' l m w hl hm hA.at hB.at).mono ?_
  rintro e w1 ⟨⟨v, he, hN⟩, hb⟩
  exact makes_of he hN hb
theorem or_u {A A' : Option Addr} {cap cap' : Nat} {l m R : List Int} {w : World} (hR : mergeL fOr l m = R) (hl : l.length ≤ 10000) (hm : m.length ≤ 10000) (hA : Row w A cap l) (hB : Row w A' cap' m) :
    Calls Tryz.prog 66 #[.slice A l.length cap, .slice A' m.length cap'] w (Makes w R) := by
  subst hR
  refine (or_c A A' l.length m.length cap cap' l m w hl hm hA.at hB.at).mono ?_
  rintro e w1 ⟨⟨v, he, hN⟩, hb⟩
  exact makes_of he hN hb
theorem not_u {A A' : Option Addr} {cap cap' : Nat} {l m R : List Int} {w : World} (hR : mergeL fNot l m = R) (hl : l.length ≤ 10000) (hm : m.length ≤ 10000) (hA : Row w A cap l) (hB : Row w A' cap' m) :
    Calls Tryz.prog 65 #[.slice A l.length cap, .slice A' m.length cap'] w (Makes w R) := by
  subst hR
  refine (not_c A A' l.length m.length cap cap' l m w hl hm hA.at hB.at).mono ?_
  rintro e w1 ⟨⟨v, he, hN⟩, hb⟩
  exact makes_of he hN hb
end Go.Proofs.YtdbifbgjbfnfmaaGreatDoor
/-
  Arguments that are slices of integers, and slices of these: their cells, read off what the statement gives.
-/
namespace Go.Proofs.YtdbifbgjbfnfmaaGreatDoor
open Go.ChangeShapes Go.WideShapes Go.ChangeAt Go.RowKit Go.Deep
set_option linter.unusedVariables false

/-- A slice of slices of integers that was there. -/
def LsAt (w : World) (A : Option Addr) (len cap : Nat) (L : List (List Int)) : Prop :=
  len = L.length ∧ len ≤ cap ∧ ∀ i (h : i < L.length), ∃ ad Ai ci, A = some ad ∧ (ad.add i).block < w.heap.size ∧ w.cell? (ad.add i) = some (.slice Ai L[i].length ci) ∧ IAt w Ai L[i].length ci L[i] ∧ L[i].length ≤ maxLen
theorem LsAt.below {w w' : World} {A : Option Addr} {len cap : Nat} {L : List (List Int)} (h : LsAt w A len cap L) (hb : Below w.heap.size w w') : LsAt w' A len cap L :=
  ⟨h.1, h.2.1, fun i hi => by
    obtain ⟨ad, Ai, ci, rfl, h2, h3, h4, h5⟩ := h.2.2 i hi
    exact ⟨ad, Ai, ci, rfl, Nat.lt_of_lt_of_le h2 hb.size, (hb.cell (p := ad.add i) h2).trans h3, h4.below hb, h5⟩⟩
theorem one_int : Tryz.prog.cellsOf 3 = 1 := by kernel_rfl
theorem one_ints : Tryz.prog.cellsOf 32 = 1 := by kernel_rfl
theorem wf_bounds {a : Int} (h : (Lit.int .i64 a).wf = true) : -9223372036854775808 ≤ a ∧ a ≤ 9223372036854775807 := by
  have e : IntKind.i64.min = -9223372036854775808 := by decide
  unfold Lit.wf at h
  simp at h
  omega
section
variable {H : Type} {enc : TypeId × Value → H} {w : World} {base : Nat} {spare : Nat → Bool} {held : Bool}
theorem open_is0 {fuel : Nat} {cs : List Value} {x : DataW H × List MemPlace} (h : DataW.trod enc Tryz.prog w base spare held fuel 32 cs = some x) :
    ∃ A n c zs, cs = [.slice A n c] ∧ IAt w A n c zs ∧ n ≤ maxLen := by
  rcases open_ints Tryz.underlying32 Tryz.underlying3 one_int h with ⟨rfl, _⟩ | ⟨a, n, c, zs, rfl, _, hl, hm, hz, _, hcell, hwz⟩
  · exact ⟨none, 0, 0, [], rfl, IAt.nil _ _ _, Nat.zero_le _⟩
  · have hn : n ≤ zs.length := by rw [hz]; split <;> omega
    refine ⟨some a, n, c, zs.take n, rfl, ⟨by rw [List.length_take]; omega, hl, fun i hi => ?_⟩, by omega⟩
    have hi2 : i < n := by rw [List.length_take] at hi; omega
    have hi3 : i < zs.length := by omega
    have h1 := hcell i hi3
    have e : (zs.take n)[i] = zs[i] := by simp
    rw [List.getD_eq_getElem?_getD, List.getElem?_eq_getElem hi3] at h1
    rw [e]
    exact ⟨wf_bounds (hwz _ (List.getElem_mem hi3)), a, rfl, World.block_lt_of_cell? w _ h1, h1⟩
theorem open_is {fuel : Nat} {a0 : Option Addr} {len cap : Nat} {x : DataW H × List MemPlace} (h : DataW.trod enc Tryz.prog w base spare held fuel 32 [.slice a0 len cap] = some x) :
    ∃ zs, IAt w a0 len cap zs ∧ len ≤ maxLen := by
  obtain ⟨A, n, c, zs, e, hI, hn⟩ := open_is0 h
  simp at e
  obtain ⟨rfl, rfl, rfl⟩ := e
  exact ⟨zs, hI, hn⟩
end
end Go.Proofs.YtdbifbgjbfnfmaaGreatDoor
/-
  Layer 6 (post): Union, the program's and the document's.
-/
namespace Go.Proofs.YtdbifbgjbfnfmaaGreatDoor
open Go.RowKit Go.Deep
set_option linter.unusedVariables false
set_option linter.unusedSimpArgs false
theorem LsAt.taken {w : World} {A : Option Addr} {n cap : Nat} {L : List (List Int)} (h : LsAt w A n cap L) (k : Nat) (hk : k ≤ n) : LsAt w A k cap (L.take k) := by
  have h1 := h.1
  have h2 := h.2.1
  refine ⟨by rw [List.length_take]; omega, by omega, fun i hi => ?_⟩
  rw [List.length_take] at hi
  have h3 := h.2.2 i (by omega)
  have e : (L.take k)[i]'(by rw [List.length_take]; omega) = L[i]'(by omega) := by simp
  rw [e]
  exact h3
theorem LsAt.dropped {w : World} {A : Option Addr} {n cap : Nat} {L : List (List Int)} (h : LsAt w A n cap L) (k : Nat) (hk : k ≤ n) : LsAt w (if cap = k then A else A.map (·.add k)) (n - k) (cap - k) (L.drop k) := by
  have h1 := h.1
  have h2 := h.2.1
  refine ⟨by rw [List.length_drop, h1], by omega, fun i hi => ?_⟩
  rw [List.length_drop] at hi
  obtain ⟨ad, Ai, ci, rfl, b1, b2, b3, b4⟩ := h.2.2 (k + i) (by omega)
  rw [if_neg (show ¬ cap = k by omega)]
  have ea : (ad.add k).add i = ad.add (k + i) := by
    cases i with
    | zero => rfl
    | succ i => cases k with
      | zero => simp [Addr.add]
      | succ k => simp [Addr.add]; omega
  have e : (L.drop k)[i]'(by rw [List.length_drop]; omega) = L[k + i]'(by omega) := by simp
  rw [e]
  exact ⟨_, Ai, ci, rfl, by rw [ea]; exact b1, by rw [ea]; exact b2, b3, b4⟩
/-- How many integers stand in lists. -/
def allLen (L : List (List Int)) : Nat := (L.map List.length).sum
theorem allLen_cut (L : List (List Int)) (k : Nat) : allLen (L.take k) + allLen (L.drop k) = allLen L := by
  unfold allLen
  rw [← List.sum_append, ← List.map_append, List.take_append_drop]
/-- A list that has what one of lists has, and rises. -/
def IsUnion (L : List (List Int)) (u : List Int) : Prop := Up u ∧ (∀ x, x ∈ u ↔ ∃ l ∈ L, x ∈ l) ∧ u.length ≤ allLen L
theorem union_two {L : List (List Int)} {k : Nat} {u v : List Int} (hu : IsUnion (L.take k) u) (hv : IsUnion (L.drop k) v) : IsUnion L (mergeL fOr u v) := by
  refine ⟨up_merge _ _ _ hu.1 hv.1, fun x => ?_, ?_⟩
  · rw [mem_or hu.1 hv.1, hu.2.1, hv.2.1]
    constructor
    · rintro (⟨l, hl, hx⟩ | ⟨l, hl, hx⟩)
      · exact ⟨l, List.mem_of_mem_take hl, hx⟩
      · exact ⟨l, List.mem_of_mem_drop hl, hx⟩
    · rintro ⟨l, hl, hx⟩
      rw [← List.take_append_drop k L] at hl
      rcases List.mem_append.1 hl with hl | hl
      · exact .inl ⟨l, hl, hx⟩
      · exact .inr ⟨l, hl, hx⟩
  · have h1 := len_merge fOr u v
    have h2 := allLen_cut L k
    have h3 := hu.2.2
    have h4 := hv.2.2
    omega
theorem union_one {l : List Int} (h : Up l) : IsUnion [l] (mergeL fOr l []) := by
  refine ⟨up_merge _ _ _ h (by simp), fun x => ?_, ?_⟩
  · rw [mem_or h (by simp)]; simp
  · have := len_merge fOr l []; simpa [allLen] using this
set_option maxRecDepth 100000 in
set_option maxHeartbeats 1000000 in
theorem union_c (n : Nat) : ∀ (L : List (List Int)) (A : Option Addr) (len cap : Nat) (w : World), L.length = n → len ≤ 5000 → LsAt w A len cap L → (∀ l ∈ L, Up l) → allLen L ≤ 10000 →
    Calls Tryz.prog 40 #[.slice A len cap] w fun e w' => (∃ u A1 c1, e = .returned (.slice A1 u.length c1) ∧ Row w' A1 c1 u ∧ IsUnion L u) ∧ Below w.heap.size w w' := by
  induction n using Nat.strongRecOn with
  | _ n ih =>
  intro L A len cap w hn hlen hA hU hT
  have hle := hA.1
  subst hle hn
  match L with
  | [] =>
    clear ih
    go_enter Tryz.func40, Tryz.ntmps40
    go_wp2_with fail
    go_ret
    exact ⟨⟨[], none, 0, rfl, NewI.nil _ _, by simp [IsUnion, allLen]⟩, Below.refl _ _⟩
  | [l] =>
    obtain ⟨ad, A0, c0, rfl, h2, h3, h4, h5⟩ := hA.2.2 0 (by simp)
    have co := Lib.hid (or_c A0 none l.length 0 c0 0 l [] w (by simpa [allLen] using hT) (by simp) h4 (IAt.nil _ _ _))
    have HU := Lib.hid (union_one (hU l (by simp)))
    replace h3 : w.cell? ad = some (.slice A0 l.length c0) := h3
    replace h2 : ad.block < w.heap.size := h2
    clear ih
    go_enter Tryz.func40, Tryz.ntmps40
    go_wp2_with fail
    refine co.out.mono ?_
    rintro e w1 ⟨⟨v, rfl, hN⟩, hb⟩
    obtain ⟨A1, c1, rfl, _⟩ := hN.at
    have HN := Lib.hid hN
    clear hN
    go_wp2_with fail
    go_ret
    exact ⟨⟨_, A1, c1, rfl, HN.out.mono (Nat.zero_le _), HU.out⟩, hb⟩
  | l :: m :: L =>
    obtain ⟨LL, hLL⟩ : ∃ x, l :: m :: L = x := ⟨_, rfl⟩
    rw [hLL] at hU hT hlen hA ih ⊢
    have h2 : 2 ≤ LL.length := by rw [← hLL]; simp
    clear hLL
    obtain ⟨q, hq⟩ : ∃ q, LL.length / 2 = q := ⟨_, rfl⟩
    have hq1 : q < LL.length := by omega
    have hq2 : 0 < q := by omega
    have hcut := allLen_cut LL q
    have i1 := fun W (h : Below w.heap.size w W) => ih q hq1 (LL.take q) A q cap W (by rw [List.length_take]; omega) (by omega) ((hA.below h).taken q (by omega)) (fun l hl => hU l (List.mem_of_mem_take hl)) (by omega)
    obtain ⟨X, hX⟩ : ∃ X, (if cap = q then A else A.map (·.add q)) = X := ⟨_, rfl⟩
    obtain ⟨r, hr⟩ : ∃ r, LL.length - q = r := ⟨_, rfl⟩
    have i2 := fun W (h : Below w.heap.size w W) => ih r (by omega) (LL.drop q) X r (cap - q) W (by rw [List.length_drop]; exact hr) (by omega) (by have := (hA.below h).dropped q (Nat.le_of_lt hq1); rwa [hX, hr] at this) (fun l hl => hU l (List.mem_of_mem_drop hl)) (by omega)
    have hcap : LL.length ≤ cap := hA.2.1
    have dq : (LL.length : Int) / 2 = (q : Int) := by omega
    have dt : (LL.length : Int).tdiv 2 = (q : Int) := by rw [Int.tdiv_eq_ediv_of_nonneg (by omega)]; exact dq
    have t0 : ((LL.length : Int) == 0) = false := by rw [beq_eq_false_iff_ne]; omega
    have t1 : ((LL.length : Int) == 1) = false := by rw [beq_eq_false_iff_ne]; omega
    have I1 := Lib.hid i1
    have I2 := Lib.hid i2
    have HT := Lib.hid (And.intro hT hcut)
    clear ih i1 i2 hq hcut hA hU hT
    go_enter Tryz.func40, Tryz.ntmps40
    go_wp2_with fail
    go_region_with (first
      | (go_at_call_of 40 (Value.slice A q cap); refine (I1.out _ (by first | exact Below.refl _ _ | exact (Below.refl _ _).drew | exact below_drewN (Below.refl _ _) _)).mono ?_; rintro e w1 ⟨⟨u1, B1, c1, rfl, hR1, hU1⟩, hb1⟩; have hb1 : Below w.heap.size w w1 := (by first | exact hb1 | exact below_of_drew hb1); have HR1 := Lib.hid hR1; have HU1 := Lib.hid hU1; clear hR1 hU1; dsimp only)
      | (go_at_call_of 40 (Value.slice X r (cap - q)); refine (I2.out _ (by first | exact hb1 | exact hb1.drew | exact below_drewN hb1 _)).mono ?_; rintro e w2 ⟨⟨u2, B2, c2, rfl, hR2, hU2⟩, hb2⟩; have HR2 := Lib.hid hR2; have HU2 := Lib.hid hU2; clear hR2 hU2; have HR3 := Lib.hid (HR1.out.below hb2); have hb3 := below2 hb1 hb2 hb1.size; dsimp only)
      | (go_at_call 66; refine (or_u (R := mergeL fOr u1 u2) rfl (by have h1 := HU1.out.2.2; have h2 := HT.out; omega) (by have h1 := HU2.out.2.2; have h2 := HT.out; omega) HR3.out HR2.out).mono ?_; rintro e w3 ⟨⟨B3, c3, rfl, hR4⟩, hb4⟩; have HR4 := Lib.hid hR4; clear hR4; have hb5 := below2 hb3 hb4 hb3.size; have HU3 := Lib.hid (union_two HU1.out HU2.out); dsimp only))
    all_goals
      go_wp2_with fail
      go_ret
      exact ⟨⟨_, _, _, rfl, HR4.out, HU3.out⟩, hb5⟩
theorem fold_union (L : List (List Int)) (hU : ∀ l ∈ L, Up l) (hT : allLen L ≤ 10000) : IsUnion L (L.foldl (mergeL fOr) []) := by
  have h := unionL_mem L [] (by simp) hU
  refine ⟨h.1, fun x => by rw [h.2]; simp, ?_⟩
  have hl : ∀ (M : List (List Int)) (acc : List Int), (M.foldl (mergeL fOr) acc).length ≤ acc.length + allLen M := by
    intro M
    induction M with
    | nil => intro acc; simp [allLen]
    | cons m M ih =>
      intro acc
      have h1 := ih (mergeL fOr acc m)
      have h2 := len_merge fOr acc m
      simp only [allLen, List.map_cons, List.sum_cons, List.foldl_cons] at h1 ⊢
      omega
  simpa using hl L []
theorem fold_snoc (L : List (List Int)) (i : Nat) (h : i < L.length) : (L.take (i + 1)).foldl (mergeL fOr) [] = mergeL fOr ((L.take i).foldl (mergeL fOr) []) L[i] := by
  rw [List.take_succ_eq_append_getElem h, List.foldl_append]; rfl
theorem allLen_take (L : List (List Int)) (i : Nat) : allLen (L.take i) ≤ allLen L := by have := allLen_cut L i; omega
theorem len_mem {L : List (List Int)} (i : Nat) (h : i < L.length) : L[i].length ≤ allLen L := by
  have h1 := allLen_take L (i + 1)
  rw [List.take_succ_eq_append_getElem h] at h1
  simp only [allLen, List.map_append, List.sum_append, List.map_cons, List.map_nil, List.sum_cons, List.sum_nil] at h1
  unfold allLen; omega
end Go.Proofs.YtdbifbgjbfnfmaaGreatDoor
/-
  Layer 7 (index): whom one matcher means, out of postings, plain. No program is named.
-/
namespace Go.Proofs.YtdbifbgjbfnfmaaGreatDoor
set_option linter.unusedVariables false
set_option linter.unusedSimpArgs false
theorem oneL_get (m : Mat) (l k : List Lab) (h : getL l m.2.1 = getL k m.2.1) : oneL m l = oneL m k := by unfold oneL; rw [h]
/-- Series that have no label of a name. -/
def noneN (X : Ix) (n : Txt) (x : Int) : Prop := ∃ i : Nat, i < X.length ∧ x = i ∧ ∀ v, x ∉ idsP (pstX X) n v
def meantM (X : Ix) (m : Mat) : List Int := selN X [m] X.length
theorem mem_meantM {X : Ix} {m : Mat} {x : Int} : x ∈ meantM X m ↔ ∃ i : Nat, ∃ h : i < X.length, x = i ∧ oneL m X[i] = true := by
  unfold meantM
  rw [selN_mem]
  constructor
  · rintro ⟨i, h, rfl, e⟩; rw [meant_at h] at e; exact ⟨i, h, rfl, by simpa [allL] using e⟩
  · rintro ⟨i, h, rfl, e⟩; exact ⟨i, h, rfl, by rw [meant_at h]; simpa [allL] using e⟩
theorem meant_of {X : Ix} (hG : Good X) {m : Mat} (x : Int) : ((∃ v, oneL m [(m.2.1, v)] = true ∧ x ∈ idsP (pstX X) m.2.1 v) ∨ (oneL m [] = true ∧ noneN X m.2.1 x)) ↔ x ∈ meantM X m := by
  rw [mem_meantM]
  constructor
  · rintro (⟨v, h1, h2⟩ | ⟨h1, i, hi, rfl, h2⟩)
    · obtain ⟨j, rfl, hm⟩ := mem_idsP.1 h2
      obtain ⟨hj, hm⟩ := mem_pstX.1 hm
      refine ⟨j, hj, rfl, ?_⟩
      rw [← h1]
      refine oneL_get _ _ _ ?_
      rw [getL_mem (okL_nodup (hG.ok _ (List.getElem_mem hj))) hm, getL_mem (n := m.2.1) (v := v) (by simp) (by simp)]
    · refine ⟨i, hi, rfl, ?_⟩
      rw [← h1]
      refine oneL_get _ _ _ ?_
      rw [getL_none (fun v hv => h2 v (mem_idsP.2 ⟨i, rfl, mem_pstX.2 ⟨hi, hv⟩⟩)), getL_none (by simp)]
  · rintro ⟨i, hi, rfl, h1⟩
    by_cases hm : ∃ v, (m.2.1, v) ∈ X[i]
    · obtain ⟨v, hm⟩ := hm
      left
      refine ⟨v, ?_, mem_idsP.2 ⟨i, rfl, mem_pstX.2 ⟨hi, hm⟩⟩⟩
      rw [← h1]
      refine oneL_get _ _ _ ?_
      rw [getL_mem (okL_nodup (hG.ok _ (List.getElem_mem hi))) hm, getL_mem (n := m.2.1) (v := v) (by simp) (by simp)]
    · right
      refine ⟨?_, i, hi, rfl, fun v hv => hm ⟨v, ?_⟩⟩
      · rw [← h1]
        refine oneL_get _ _ _ ?_
        rw [getL_none (fun v hv => hm ⟨v, hv⟩), getL_none (by simp)]
      · obtain ⟨j, e, hv⟩ := mem_idsP.1 hv
        obtain rfl : i = j := by omega
        exact (mem_pstX.1 hv).2
/-! how many -/
theorem sum_add {α : Type} (ss : List α) (f g : α → Nat) : (ss.map fun s => f s + g s).sum = (ss.map f).sum + (ss.map g).sum := by
  induction ss with
  | nil => rfl
  | cons s ss ih => simp only [List.map_cons, List.sum_cons, ih]; omega
theorem sum_once {ss : List Txt} (h : ss.Nodup) (v : Txt) (c : Bool) : (ss.map fun s => if (c && decide (v = s)) = true then 1 else 0).sum ≤ (if v ∈ ss then 1 else 0) := by
  induction ss with
  | nil => simp
  | cons s ss ih =>
    rw [List.nodup_cons] at h
    have h1 := ih h.2
    simp only [List.map_cons, List.sum_cons]
    by_cases e : v = s
    · subst e
      rw [if_neg h.1] at h1
      rw [if_pos (show v ∈ v :: ss by simp)]
      split <;> omega
    · rw [if_neg (by simp [e])]
      by_cases hm : v ∈ ss
      · rw [if_pos hm] at h1; rw [if_pos (by simp [hm])]; omega
      · rw [if_neg hm] at h1; omega
theorem allLen_ids (P : Pst) (n : Txt) {ss : List Txt} (h : ss.Nodup) : allLen (ss.map (idsP P n)) ≤ P.length := by
  unfold allLen
  rw [List.map_map]
  induction P with
  | nil =>
    have e : (List.length ∘ idsP [] n) = fun _ => 0 := by funext s; simp [idsP]
    rw [e]
    induction ss with
    | nil => simp
    | cons s ss ih => simp only [List.map_cons, List.sum_cons]; have := ih (List.nodup_cons.1 h).2; simpa using this
  | cons x P ih =>
    have e : (List.length ∘ idsP (x :: P) n) = fun s => (if (decide (x.1 = n) && decide (x.2.1 = s)) = true then 1 else 0) + (List.length ∘ idsP P n) s := by
      funext s
      simp only [Function.comp, idsP, List.filter_cons, List.length_map]
      split <;> simp <;> omega
    rw [e, sum_add]
    have h1 := sum_once h x.2.1 (decide (x.1 = n))
    have h2 : (if x.2.1 ∈ ss then 1 else 0) ≤ 1 := by split <;> omega
    simp only [List.length_cons]
    omega
theorem allLen_append (L M : List (List Int)) : allLen (L ++ M) = allLen L + allLen M := by simp [allLen]
/-- What the union of the lists is. -/
theorem meant_union {X : Ix} (hG : Good X) {m : Mat} {fs : List Txt} (hf : ∀ s, idsP (pstX X) m.2.1 s ≠ [] → (s ∈ fs ↔ oneL m [(m.2.1, s)] = true)) {wo : List Int} (hw : ∀ x, x ∈ wo ↔ noneN X m.2.1 x) {u : List Int}
    (hu : IsUnion (fs.map (idsP (pstX X) m.2.1) ++ if oneL m [] = true then [wo] else []) u) : u = meantM X m := by
  refine up_ext hu.1 (selN_up X [m] X.length) fun x => ?_
  rw [hu.2.1]
  refine Iff.trans ?_ (meant_of hG x)
  constructor
  · rintro ⟨l, hl, hx⟩
    rcases List.mem_append.1 hl with hl | hl
    · obtain ⟨s, hs, rfl⟩ := List.mem_map.1 hl
      exact .inl ⟨s, (hf s (List.ne_nil_of_mem hx)).1 hs, hx⟩
    · split at hl
      · rename_i h1
        simp at hl
        subst hl
        exact .inr ⟨h1, (hw x).1 hx⟩
      · simp at hl
  · rintro (⟨s, h1, h2⟩ | ⟨h1, h2⟩)
    · exact ⟨_, List.mem_append_left _ (List.mem_map.2 ⟨s, (hf s (List.ne_nil_of_mem h2)).2 h1, rfl⟩), h2⟩
    · exact ⟨wo, List.mem_append_right _ (by rw [if_pos h1]; simp), (hw x).2 h2⟩
theorem without_mem {X : Ix} (hG : Good X) {n : Txt} {ss : List Txt} (hs : ∀ s, idsP (pstX X) n s ≠ [] → s ∈ ss) {u : List Int} (hu : IsUnion (ss.map (idsP (pstX X) n)) u) {al : List Int} (ha : Up al) (hal : ∀ x, x ∈ al ↔ ∃ i : Nat, i < X.length ∧ x = i) (x : Int) :
    x ∈ mergeL fNot al u ↔ noneN X n x := by
  rw [mem_not ha hu.1, hal, hu.2.1]
  unfold noneN
  constructor
  · rintro ⟨⟨i, hi, rfl⟩, h2⟩
    exact ⟨i, hi, rfl, fun v hv => h2 ⟨_, List.mem_map.2 ⟨v, hs v (List.ne_nil_of_mem hv), rfl⟩, hv⟩⟩
  · rintro ⟨i, hi, rfl, h2⟩
    refine ⟨⟨i, hi, rfl⟩, ?_⟩
    rintro ⟨l, hl, hx⟩
    obtain ⟨s, _, rfl⟩ := List.mem_map.1 hl
    exact h2 s hx
end Go.Proofs.YtdbifbgjbfnfmaaGreatDoor
