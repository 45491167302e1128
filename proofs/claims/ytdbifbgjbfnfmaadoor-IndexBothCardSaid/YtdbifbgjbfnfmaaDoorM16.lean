/-
  Texts of the same seat, one behind the other (merged; each says at its head what it is).
-/
import Derived.Test.YtdbifbgjbfnfmaaDoorM15
import Derived.Test.YtdbifbgjbfnfmaaDoorM07
import Derived.ProofKit
import Derived.OpenShut
import Derived.Deep.Slices
import Derived.Deep.Fields
import Derived.ChangeSame
import Derived.Test.YtdbifbgjbfnfmaaDoorM12
import Derived.Test.YtdbifbgjbfnfmaaDoorM01
import Derived.Deep.RegionHeld3
import Derived.Deep.Quiet
import Derived.RangeFuncNested
import Derived.RangeFuncCalls
import Derived.RangeFuncLeaves
import Derived.OrdersIn
import Derived.OwnWalkIn
import Derived.RangeFuncBox
import Derived.Maps.AppendAt
import Derived.Test.YtdbifbgjbfnfmaaDoorM05
/-
  Layer 6 (post): And, Or, Not and Has.
-/
namespace Go.Proofs.YtdbifbgjbfnfmaaDoor
open Go.RowKit Go.Deep
set_option linter.unusedVariables false
set_option linter.unusedSimpArgs false
theorem and_c (A A' : Option Addr) (len len' cap cap' : Nat) (l m : List Int) (w : World) (hl : l.length ≤ 10000) (hm : m.length ≤ 10000) (hA : IAt w A len cap l) (hB : IAt w A' len' cap' m) :
    Calls Tryd.prog 38 #[.slice A len cap, .slice A' len' cap'] w fun e w' => (∃ v, e = .returned v ∧ NewI w.heap.size v (mergeL fAnd l m) w') ∧ Below w.heap.size w w' := by
  have cm := Lib.hid (mergeAnd_c A A' len len' cap cap' l m w hl hm hA hB)
  go_enter Tryd.func38, Tryd.ntmps38
  go_wp2_with (first | (go_at_call 61; refine cm.out.mono ?_; rintro e w1 ⟨⟨v, rfl, hN⟩, hb⟩; have HN := Lib.hid hN; clear hN; dsimp only))
  go_ret
  exact ⟨⟨_, rfl, HN.out⟩, hb⟩
theorem or_c (A A' : Option Addr) (len len' cap cap' : Nat) (l m : List Int) (w : World) (hl : l.length ≤ 10000) (hm : m.length ≤ 10000) (hA : IAt w A len cap l) (hB : IAt w A' len' cap' m) :
    Calls Tryd.prog 96 #[.slice A len cap, .slice A' len' cap'] w fun e w' => (∃ v, e = .returned v ∧ NewI w.heap.size v (mergeL fOr l m) w') ∧ Below w.heap.size w w' := by
  have cm := Lib.hid (mergeOr_c A A' len len' cap cap' l m w hl hm hA hB)
  go_enter Tryd.func96, Tryd.ntmps96
  go_wp2_with (first | (go_at_call 61; refine cm.out.mono ?_; rintro e w1 ⟨⟨v, rfl, hN⟩, hb⟩; have HN := Lib.hid hN; clear hN; dsimp only))
  go_ret
  exact ⟨⟨_, rfl, HN.out⟩, hb⟩
theorem not_c (A A' : Option Addr) (len len' cap cap' : Nat) (l m : List Int) (w : World) (hl : l.length ≤ 10000) (hm : m.length ≤ 10000) (hA : IAt w A len cap l) (hB : IAt w A' len' cap' m) :
    Calls Tryd.prog 95 #[.slice A len cap, .slice A' len' cap'] w fun e w' => (∃ v, e = .returned v ∧ NewI w.heap.size v (mergeL fNot l m) w') ∧ Below w.heap.size w w' := by
  have cm := Lib.hid (mergeNot_c A A' len len' cap cap' l m w hl hm hA hB)
  go_enter Tryd.func95, Tryd.ntmps95
  go_wp2_with (first | (go_at_call 61; refine cm.out.mono ?_; rintro e w1 ⟨⟨v, rfl, hN⟩, hb⟩; have HN := Lib.hid hN; clear hN; dsimp only))
  go_ret
  exact ⟨⟨_, rfl, HN.out⟩, hb⟩
end Go.Proofs.YtdbifbgjbfnfmaaDoor
/-
  Layer 6 (post): the functions' contracts over rows of the call's own, as the laws use them.
-/
namespace Go.Proofs.YtdbifbgjbfnfmaaDoor
open Go.RowKit Go.Deep
set_option linter.unusedVariables false
set_option linter.unusedSimpArgs false
/-- A row that is anywhere. -/
abbrev Row (w : World) (A : Option Addr) (cap : Nat) (l : List Int) : Prop := NewI 0 (.slice A l.length cap) l w
theorem Row.at {w : World} {A : Option Addr} {cap : Nat} {l : List Int} (h : Row w A cap l) : IAt w A l.length cap l := by
  obtain ⟨A1, c1, e, hI⟩ := NewI.at h
  injection e with e1 e2 e3
  subst e1 e3
  exact hI
theorem Row.below {w w' : World} {A : Option Addr} {cap : Nat} {l : List Int} (h : Row w A cap l) (hb : Below w.heap.size w w') : Row w' A cap l := NewI.below h hb
/-- What a call that makes a row answers. -/
abbrev Makes (w : World) (R : List Int) (e : Ending) (w' : World) : Prop := (∃ A c, e = .returned (.slice A R.length c) ∧ Row w' A c R) ∧ Below w.heap.size w w'
theorem makes_of {w w' : World} {R : List Int} {e : Ending} {v : Value} {B : Nat} (he : e = .returned v) (hN : NewI B v R w') (hb : Below w.heap.size w w') : Makes w R e w' := by
  obtain ⟨A1, c1, rfl, _⟩ := hN.at
  exact ⟨⟨A1, c1, he, hN.mono (Nat.zero_le _)⟩, hb⟩
theorem and_u {A A' : Option Addr} {cap cap' : Nat} {l m R : List Int} {w : World} (hR : mergeL fAnd l m = R) (hl : l.length ≤ 10000) (hm : m.length ≤ 10000) (hA : Row w A cap l) (hB : Row w A' cap' m) :
    Calls Tryd.prog 38 #[.slice A l.length cap, .slice A' m.length cap'] w (Makes w R) := by
  subst hR
  refine (and_c A A' l.length m.length cap cap' l m w hl hm hA.at hB.at).mono ?_
  rintro e w1 ⟨⟨v, he, hN⟩, hb⟩
  exact makes_of he hN hb
theorem or_u {A A' : Option Addr} {cap cap' : Nat} {l m R : List Int} {w : World} (hR : mergeL fOr l m = R) (hl : l.length ≤ 10000) (hm : m.length ≤ 10000) (hA : Row w A cap l) (hB : Row w A' cap' m) :
    Calls Tryd.prog 96 #[.slice A l.length cap, .slice A' m.length cap'] w (Makes w R) := by
  subst hR
  refine (or_c A A' l.length m.length cap cap' l m w hl hm hA.at hB.at).mono ?_
  rintro e w1 ⟨⟨v, he, hN⟩, hb⟩
  exact makes_of he hN hb
theorem not_u {A A' : Option Addr} {cap cap' : Nat} {l m R : List Int} {w : World} (hR : mergeL fNot l m = R) (hl : l.length ≤ 10000) (hm : m.length ≤ 10000) (hA : Row w A cap l) (hB : Row w A' cap' m) :
    Calls Tryd.prog 95 #[.slice A l.length cap, .slice A' m.length cap'] w (Makes w R) := by
  subst hR
  refine (not_c A A' l.length m.length cap cap' l m w hl hm hA.at hB.at).mono ?_
  rintro e w1 ⟨⟨v, he, hN⟩, hb⟩
  exact makes_of he hN hb
theorem refAnd_u {A A' : Option Addr} {cap cap' : Nat} {l m R : List Int} {w : World} (hR : andL l m = R) (hl : l.length ≤ 10000) (hm : m.length ≤ 10000) (hA : Row w A cap l) (hB : Row w A' cap' m) :
    Calls Tryd.prog 29 #[.slice A l.length cap, .slice A' m.length cap'] w (Makes w R) := by
  subst hR
  refine (refAnd_c A A' l.length m.length cap cap' l m w hl hm hA.at hB.at).mono ?_
  rintro e w1 ⟨⟨v, he, hN⟩, hb⟩
  exact makes_of he hN hb
theorem refOr_u {A A' : Option Addr} {cap cap' : Nat} {l m R : List Int} {w : World} (hR : mergeL fOr l m = R) (hl : l.length ≤ 10000) (hm : m.length ≤ 10000) (hA : Row w A cap l) (hB : Row w A' cap' m) :
    Calls Tryd.prog 24 #[.slice A l.length cap, .slice A' m.length cap'] w (Makes w R) := by
  subst hR
  refine (refOr_c A A' l.length m.length cap cap' l m w hl hm hA.at hB.at).mono ?_
  rintro e w1 ⟨⟨v, he, hN⟩, hb⟩
  exact makes_of he hN hb
theorem same_u {A A' : Option Addr} {cap cap' : Nat} {l m : List Int} {b : Bool} {w : World} (hR : decide (l = m) = b) (hl : l.length ≤ 10000) (hm : m.length ≤ 10000) (hA : Row w A cap l) (hB : Row w A' cap' m) :
    Calls Tryd.prog 23 #[.slice A l.length cap, .slice A' m.length cap'] w fun e w' => e = .returned (.bool b) ∧ Below w.heap.size w w' := by
  subst hR
  exact isame_c A A' l.length m.length cap cap' l m w (by omega) (by omega) hA.at hB.at
end Go.Proofs.YtdbifbgjbfnfmaaDoor
/-
  Arguments that are slices of integers, and slices of these: their cells, read off what the statement gives.
-/
namespace Go.Proofs.YtdbifbgjbfnfmaaDoor
open Go.ChangeShapes Go.WideShapes Go.ChangeAt Go.RowKit Go.Deep
set_option linter.unusedVariables false

/-- A slice of slices of integers that was there. -/
def LsAt (w : World) (A : Option Addr) (len cap : Nat) (L : List (List Int)) : Prop :=
  len = L.length ∧ len ≤ cap ∧ ∀ i (h : i < L.length), ∃ ad Ai ci, A = some ad ∧ (ad.add i).block < w.heap.size ∧ w.cell? (ad.add i) = some (.slice Ai L[i].length ci) ∧ IAt w Ai L[i].length ci L[i] ∧ L[i].length ≤ maxLen
theorem LsAt.below {w w' : World} {A : Option Addr} {len cap : Nat} {L : List (List Int)} (h : LsAt w A len cap L) (hb : Below w.heap.size w w') : LsAt w' A len cap L :=
  ⟨h.1, h.2.1, fun i hi => by
    obtain ⟨ad, Ai, ci, rfl, h2, h3, h4, h5⟩ := h.2.2 i hi
    exact ⟨ad, Ai, ci, rfl, Nat.lt_of_lt_of_le h2 hb.size, (hb.cell (p := ad.add i) h2).trans h3, h4.below hb, h5⟩⟩
theorem one_int : Tryd.prog.cellsOf 3 = 1 := by kernel_rfl
theorem one_ints : Tryd.prog.cellsOf 40 = 1 := by kernel_rfl
theorem wf_bounds {a : Int} (h : (Lit.int .i64 a).wf = true) : -9223372036854775808 ≤ a ∧ a ≤ 9223372036854775807 := by
  have e : IntKind.i64.min = -9223372036854775808 := by decide
  unfold Lit.wf at h
  simp at h
  omega
section
variable {H : Type} {enc : TypeId × Value → H} {w : World} {base : Nat} {spare : Nat → Bool} {held : Bool}
theorem open_is0 {fuel : Nat} {cs : List Value} {x : DataW H × List MemPlace} (h : DataW.trod enc Tryd.prog w base spare held fuel 40 cs = some x) :
    ∃ A n c zs, cs = [.slice A n c] ∧ IAt w A n c zs ∧ n ≤ maxLen := by
  rcases open_ints Tryd.underlying40 Tryd.underlying3 one_int h with ⟨rfl, _⟩ | ⟨a, n, c, zs, rfl, _, hl, hm, hz, _, hcell, hwz⟩
  · exact ⟨none, 0, 0, [], rfl, IAt.nil _ _ _, Nat.zero_le _⟩
  · have hn : n ≤ zs.length := by rw [hz]; split <;> omega
    refine ⟨some a, n, c, zs.take n, rfl, ⟨by rw [List.length_take]; omega, hl, fun i hi => ?_⟩, by omega⟩
    have hi2 : i < n := by rw [List.length_take] at hi; omega
    have hi3 : i < zs.length := by omega
    have h1 := hcell i hi3
    have e : (zs.take n)[i] = zs[i] := by simp
    rw [List.getD_eq_getElem?_getD, List.getElem?_eq_getElem hi3] at h1
    rw [e]
    exact ⟨wf_bounds (hwz _ (List.getElem_mem hi3)), a, rfl, World.block_lt_of_cell? w _ h1, h1⟩
theorem open_is {fuel : Nat} {a0 : Option Addr} {len cap : Nat} {x : DataW H × List MemPlace} (h : DataW.trod enc Tryd.prog w base spare held fuel 40 [.slice a0 len cap] = some x) :
    ∃ zs, IAt w a0 len cap zs ∧ len ≤ maxLen := by
  obtain ⟨A, n, c, zs, e, hI, hn⟩ := open_is0 h
  simp at e
  obtain ⟨rfl, rfl, rfl⟩ := e
  exact ⟨zs, hI, hn⟩
end
end Go.Proofs.YtdbifbgjbfnfmaaDoor
/-
  Layer 6 (post): Union, the program's and the document's.
-/
namespace Go.Proofs.YtdbifbgjbfnfmaaDoor
open Go.RowKit Go.Deep
set_option linter.unusedVariables false
set_option linter.unusedSimpArgs false
theorem LsAt.taken {w : World} {A : Option Addr} {n cap : Nat} {L : List (List Int)} (h : LsAt w A n cap L) (k : Nat) (hk : k ≤ n) : LsAt w A k cap (L.take k) := by
  have h1 := h.1
  have h2 := h.2.1
  refine ⟨by rw [List.length_take]; omega, by omega, fun i hi => ?_⟩
  rw [List.length_take] at hi
  have h3 := h.2.2 i (by omega)
  have e : (L.take k)[i]'(by rw [List.length_take]; omega) = L[i]'(by omega) := by simp
  rw [e]
  exact h3
theorem LsAt.dropped {w : World} {A : Option Addr} {n cap : Nat} {L : List (List Int)} (h : LsAt w A n cap L) (k : Nat) (hk : k ≤ n) : LsAt w (if cap = k then A else A.map (·.add k)) (n - k) (cap - k) (L.drop k) := by
  have h1 := h.1
  have h2 := h.2.1
  refine ⟨by rw [List.length_drop, h1], by omega, fun i hi => ?_⟩
  rw [List.length_drop] at hi
  obtain ⟨ad, Ai, ci, rfl, b1, b2, b3, b4⟩ := h.2.2 (k + i) (by omega)
  rw [if_neg (show ¬ cap = k by omega)]
  have ea : (ad.add k).add i = ad.add (k + i) := by
    cases i with
    | zero => rfl
    | succ i => cases k with
      | zero => simp [Addr.add]
      | succ k => simp [Addr.add]; omega
  have e : (L.drop k)[i]'(by rw [List.length_drop]; omega) = L[k + i]'(by omega) := by simp
  rw [e]
  exact ⟨_, Ai, ci, rfl, by rw [ea]; exact b1, by rw [ea]; exact b2, b3, b4⟩
/-- How many integers stand in lists. -/
def allLen (L : List (List Int)) : Nat := (L.map List.length).sum
theorem allLen_cut (L : List (List Int)) (k : Nat) : allLen (L.take k) + allLen (L.drop k) = allLen L := by
  unfold allLen
  rw [← List.sum_append, ← List.map_append, List.take_append_drop]
/-- A list that has what one of lists has, and rises. -/
def IsUnion (L : List (List Int)) (u : List Int) : Prop := Up u ∧ (∀ x, x ∈ u ↔ ∃ l ∈ L, x ∈ l) ∧ u.length ≤ allLen L
theorem union_two {L : List (List Int)} {k : Nat} {u v : List Int} (hu : IsUnion (L.take k) u) (hv : IsUnion (L.drop k) v) : IsUnion L (mergeL fOr u v) := by
  refine ⟨up_merge _ _ _ hu.1 hv.1, fun x => ?_, ?_⟩
  · rw [mem_or hu.1 hv.1, hu.2.1, hv.2.1]
    constructor
    · rintro (⟨l, hl, hx⟩ | ⟨l, hl, hx⟩)
      · exact ⟨l, List.mem_of_mem_take hl, hx⟩
      · exact ⟨l, List.mem_of_mem_drop hl, hx⟩
    · rintro ⟨l, hl, hx⟩
      rw [← List.take_append_drop k L] at hl
      rcases List.mem_append.1 hl with hl | hl
      · exact .inl ⟨l, hl, hx⟩
      · exact .inr ⟨l, hl, hx⟩
  · have h1 := len_merge fOr u v
    have h2 := allLen_cut L k
    have h3 := hu.2.2
    have h4 := hv.2.2
    omega
theorem union_one {l : List Int} (h : Up l) : IsUnion [l] (mergeL fOr l []) := by
  refine ⟨up_merge _ _ _ h (by simp), fun x => ?_, ?_⟩
  · rw [mem_or h (by simp)]; simp
  · have := len_merge fOr l []; simpa [allLen] using this
set_option maxRecDepth 100000 in
set_option maxHeartbeats 1000000 in
theorem union_c (n : Nat) : ∀ (L : List (List Int)) (A : Option Addr) (len cap : Nat) (w : World), L.length = n → len ≤ 5000 → LsAt w A len cap L → (∀ l ∈ L, Up l) → allLen L ≤ 10000 →
    Calls Tryd.prog 65 #[.slice A len cap] w fun e w' => (∃ u A1 c1, e = .returned (.slice A1 u.length c1) ∧ Row w' A1 c1 u ∧ IsUnion L u) ∧ Below w.heap.size w w' := by
  induction n using Nat.strongRecOn with
  | _ n ih =>
  intro L A len cap w hn hlen hA hU hT
  have hle := hA.1
  subst hle hn
  match L with
  | [] =>
    clear ih
    go_enter Tryd.func65, Tryd.ntmps65
    go_wp2_with fail
    go_ret
    exact ⟨⟨[], none, 0, rfl, NewI.nil _ _, by simp [IsUnion, allLen]⟩, Below.refl _ _⟩
  | [l] =>
    obtain ⟨ad, A0, c0, rfl, h2, h3, h4, h5⟩ := hA.2.2 0 (by simp)
    have co := Lib.hid (or_c A0 none l.length 0 c0 0 l [] w (by simpa [allLen] using hT) (by simp) h4 (IAt.nil _ _ _))
    have HU := Lib.hid (union_one (hU l (by simp)))
    replace h3 : w.cell? ad = some (.slice A0 l.length c0) := h3
    replace h2 : ad.block < w.heap.size := h2
    clear ih
    go_enter Tryd.func65, Tryd.ntmps65
    go_wp2_with fail
    refine co.out.mono ?_
    rintro e w1 ⟨⟨v, rfl, hN⟩, hb⟩
    obtain ⟨A1, c1, rfl, _⟩ := hN.at
    have HN := Lib.hid hN
    clear hN
    go_wp2_with fail
    go_ret
    exact ⟨⟨_, A1, c1, rfl, HN.out.mono (Nat.zero_le _), HU.out⟩, hb⟩
  | l :: m :: L =>
    obtain ⟨LL, hLL⟩ : ∃ x, l :: m :: L = x := ⟨_, rfl⟩
    rw [hLL] at hU hT hlen hA ih ⊢
    have h2 : 2 ≤ LL.length := by rw [← hLL]; simp
    clear hLL
    obtain ⟨q, hq⟩ : ∃ q, LL.length / 2 = q := ⟨_, rfl⟩
    have hq1 : q < LL.length := by omega
    have hq2 : 0 < q := by omega
    have hcut := allLen_cut LL q
    have i1 := fun W (h : Below w.heap.size w W) => ih q hq1 (LL.take q) A q cap W (by rw [List.length_take]; omega) (by omega) ((hA.below h).taken q (by omega)) (fun l hl => hU l (List.mem_of_mem_take hl)) (by omega)
    obtain ⟨X, hX⟩ : ∃ X, (if cap = q then A else A.map (·.add q)) = X := ⟨_, rfl⟩
    obtain ⟨r, hr⟩ : ∃ r, LL.length - q = r := ⟨_, rfl⟩
    have i2 := fun W (h : Below w.heap.size w W) => ih r (by omega) (LL.drop q) X r (cap - q) W (by rw [List.length_drop]; exact hr) (by omega) (by have := (hA.below h).dropped q (Nat.le_of_lt hq1); rwa [hX, hr] at this) (fun l hl => hU l (List.mem_of_mem_drop hl)) (by omega)
    have hcap : LL.length ≤ cap := hA.2.1
    have dq : (LL.length : Int) / 2 = (q : Int) := by omega
    have dt : (LL.length : Int).tdiv 2 = (q : Int) := by rw [Int.tdiv_eq_ediv_of_nonneg (by omega)]; exact dq
    have t0 : ((LL.length : Int) == 0) = false := by rw [beq_eq_false_iff_ne]; omega
    have t1 : ((LL.length : Int) == 1) = false := by rw [beq_eq_false_iff_ne]; omega
    have I1 := Lib.hid i1
    have I2 := Lib.hid i2
    have HT := Lib.hid (And.intro hT hcut)
    clear ih i1 i2 hq hcut hA hU hT
    go_enter Tryd.func65, Tryd.ntmps65
    go_wp2_with fail
    go_region_with (first
      | (go_at_call_of 65 (Value.slice A q cap); refine (I1.out _ (by first | exact Below.refl _ _ | exact (Below.refl _ _).drew | exact below_drewN (Below.refl _ _) _)).mono ?_; rintro e w1 ⟨⟨u1, B1, c1, rfl, hR1, hU1⟩, hb1⟩; have hb1 : Below w.heap.size w w1 := (by first | exact hb1 | exact below_of_drew hb1); have HR1 := Lib.hid hR1; have HU1 := Lib.hid hU1; clear hR1 hU1; dsimp only)
      | (go_at_call_of 65 (Value.slice X r (cap - q)); refine (I2.out _ (by first | exact hb1 | exact hb1.drew | exact below_drewN hb1 _)).mono ?_; rintro e w2 ⟨⟨u2, B2, c2, rfl, hR2, hU2⟩, hb2⟩; have HR2 := Lib.hid hR2; have HU2 := Lib.hid hU2; clear hR2 hU2; have HR3 := Lib.hid (HR1.out.below hb2); have hb3 := below2 hb1 hb2 hb1.size; dsimp only)
      | (go_at_call 96; refine (or_u (R := mergeL fOr u1 u2) rfl (by have h1 := HU1.out.2.2; have h2 := HT.out; omega) (by have h1 := HU2.out.2.2; have h2 := HT.out; omega) HR3.out HR2.out).mono ?_; rintro e w3 ⟨⟨B3, c3, rfl, hR4⟩, hb4⟩; have HR4 := Lib.hid hR4; clear hR4; have hb5 := below2 hb3 hb4 hb3.size; have HU3 := Lib.hid (union_two HU1.out HU2.out); dsimp only))
    all_goals
      go_wp2_with fail
      go_ret
      exact ⟨⟨_, _, _, rfl, HR4.out, HU3.out⟩, hb5⟩
theorem fold_union (L : List (List Int)) (hU : ∀ l ∈ L, Up l) (hT : allLen L ≤ 10000) : IsUnion L (L.foldl (mergeL fOr) []) := by
  have h := unionL_mem L [] (by simp) hU
  refine ⟨h.1, fun x => by rw [h.2]; simp, ?_⟩
  have hl : ∀ (M : List (List Int)) (acc : List Int), (M.foldl (mergeL fOr) acc).length ≤ acc.length + allLen M := by
    intro M
    induction M with
    | nil => intro acc; simp [allLen]
    | cons m M ih =>
      intro acc
      have h1 := ih (mergeL fOr acc m)
      have h2 := len_merge fOr acc m
      simp only [allLen, List.map_cons, List.sum_cons, List.foldl_cons] at h1 ⊢
      omega
  simpa using hl L []
theorem fold_snoc (L : List (List Int)) (i : Nat) (h : i < L.length) : (L.take (i + 1)).foldl (mergeL fOr) [] = mergeL fOr ((L.take i).foldl (mergeL fOr) []) L[i] := by
  rw [List.take_succ_eq_append_getElem h, List.foldl_append]; rfl
theorem allLen_take (L : List (List Int)) (i : Nat) : allLen (L.take i) ≤ allLen L := by have := allLen_cut L i; omega
theorem len_mem {L : List (List Int)} (i : Nat) (h : i < L.length) : L[i].length ≤ allLen L := by
  have h1 := allLen_take L (i + 1)
  rw [List.take_succ_eq_append_getElem h] at h1
  simp only [allLen, List.map_append, List.sum_append, List.map_cons, List.map_nil, List.sum_cons, List.sum_nil] at h1
  unfold allLen; omega
end Go.Proofs.YtdbifbgjbfnfmaaDoor
/-
  Layer 7 (index): whom one matcher means, out of postings, plain. No program is named.
-/
namespace Go.Proofs.YtdbifbgjbfnfmaaDoor
set_option linter.unusedVariables false
set_option linter.unusedSimpArgs false
theorem oneL_get (m : Mat) (l k : List Lab) (h : getL l m.2.1 = getL k m.2.1) : oneL m l = oneL m k := by unfold oneL; rw [h]
/-- Series that have no label of a name. -/
def noneN (X : Ix) (n : Txt) (x : Int) : Prop := ∃ i : Nat, i < X.length ∧ x = i ∧ ∀ v, x ∉ idsP (pstX X) n v
def meantM (X : Ix) (m : Mat) : List Int := selN X [m] X.length
theorem mem_meantM {X : Ix} {m : Mat} {x : Int} : x ∈ meantM X m ↔ ∃ i : Nat, ∃ h : i < X.length, x = i ∧ oneL m X[i] = true := by
  unfold meantM
  rw [selN_mem]
  constructor
  · rintro ⟨i, h, rfl, e⟩; rw [meant_at h] at e; exact ⟨i, h, rfl, by simpa [allL] using e⟩
  · rintro ⟨i, h, rfl, e⟩; exact ⟨i, h, rfl, by rw [meant_at h]; simpa [allL] using e⟩
theorem meant_of {X : Ix} (hG : Good X) {m : Mat} (x : Int) : ((∃ v, oneL m [(m.2.1, v)] = true ∧ x ∈ idsP (pstX X) m.2.1 v) ∨ (oneL m [] = true ∧ noneN X m.2.1 x)) ↔ x ∈ meantM X m := by
  rw [mem_meantM]
  constructor
  · rintro (⟨v, h1, h2⟩ | ⟨h1, i, hi, rfl, h2⟩)
    · obtain ⟨j, rfl, hm⟩ := mem_idsP.1 h2
      obtain ⟨hj, hm⟩ := mem_pstX.1 hm
      refine ⟨j, hj, rfl, ?_⟩
      rw [← h1]
      refine oneL_get _ _ _ ?_
      rw [getL_mem (okL_nodup (hG.ok _ (List.getElem_mem hj))) hm, getL_mem (n := m.2.1) (v := v) (by simp) (by simp)]
    · refine ⟨i, hi, rfl, ?_⟩
      rw [← h1]
      refine oneL_get _ _ _ ?_
      rw [getL_none (fun v hv => h2 v (mem_idsP.2 ⟨i, rfl, mem_pstX.2 ⟨hi, hv⟩⟩)), getL_none (by simp)]
  · rintro ⟨i, hi, rfl, h1⟩
    by_cases hm : ∃ v, (m.2.1, v) ∈ X[i]
    · obtain ⟨v, hm⟩ := hm
      left
      refine ⟨v, ?_, mem_idsP.2 ⟨i, rfl, mem_pstX.2 ⟨hi, hm⟩⟩⟩
      rw [← h1]
      refine oneL_get _ _ _ ?_
      rw [getL_mem (okL_nodup (hG.ok _ (List.getElem_mem hi))) hm, getL_mem (n := m.2.1) (v := v) (by simp) (by simp)]
    · right
      refine ⟨?_, i, hi, rfl, fun v hv => hm ⟨v, ?_⟩⟩
      · rw [← h1]
        refine oneL_get _ _ _ ?_
        rw [getL_none (fun v hv => hm ⟨v, hv⟩), getL_none (by simp)]
      · obtain ⟨j, e, hv⟩ := mem_idsP.1 hv
        obtain rfl : i = j := by omega
        exact (mem_pstX.1 hv).2
/-! how many -/
theorem sum_add {α : Type} (ss : List α) (f g : α → Nat) : (ss.map fun s => f s + g s).sum = (ss.map f).sum + (ss.map g).sum := by
  induction ss with
  | nil => rfl
  | cons s ss ih => simp only [List.map_cons, List.sum_cons, ih]; omega
theorem sum_once {ss : List Txt} (h : ss.Nodup) (v : Txt) (c : Bool) : (ss.map fun s => if (c && decide (v = s)) = true then 1 else 0).sum ≤ (if v ∈ ss then 1 else 0) := by
  induction ss with
  | nil => simp
  | cons s ss ih =>
    rw [List.nodup_cons] at h
    have h1 := ih h.2
    simp only [List.map_cons, List.sum_cons]
    by_cases e : v = s
    · subst e
      rw [if_neg h.1] at h1
      rw [if_pos (show v ∈ v :: ss by simp)]
      split <;> omega
    · rw [if_neg (by simp [e])]
      by_cases hm : v ∈ ss
      · rw [if_pos hm] at h1; rw [if_pos (by simp [hm])]; omega
      · rw [if_neg hm] at h1; omega
theorem allLen_ids (P : Pst) (n : Txt) {ss : List Txt} (h : ss.Nodup) : allLen (ss.map (idsP P n)) ≤ P.length := by
  unfold allLen
  rw [List.map_map]
  induction P with
  | nil =>
    have e : (List.length ∘ idsP [] n) = fun _ => 0 := by funext s; simp [idsP]
    rw [e]
    induction ss with
    | nil => simp
    | cons s ss ih => simp only [List.map_cons, List.sum_cons]; have := ih (List.nodup_cons.1 h).2; simpa using this
  | cons x P ih =>
    have e : (List.length ∘ idsP (x :: P) n) = fun s => (if (decide (x.1 = n) && decide (x.2.1 = s)) = true then 1 else 0) + (List.length ∘ idsP P n) s := by
      funext s
      simp only [Function.comp, idsP, List.filter_cons, List.length_map]
      split <;> simp <;> omega
    rw [e, sum_add]
    have h1 := sum_once h x.2.1 (decide (x.1 = n))
    have h2 : (if x.2.1 ∈ ss then 1 else 0) ≤ 1 := by split <;> omega
    simp only [List.length_cons]
    omega
theorem allLen_append (L M : List (List Int)) : allLen (L ++ M) = allLen L + allLen M := by simp [allLen]
/-- What the union of the lists is. -/
theorem meant_union {X : Ix} (hG : Good X) {m : Mat} {fs : List Txt} (hf : ∀ s, idsP (pstX X) m.2.1 s ≠ [] → (s ∈ fs ↔ oneL m [(m.2.1, s)] = true)) {wo : List Int} (hw : ∀ x, x ∈ wo ↔ noneN X m.2.1 x) {u : List Int}
    (hu : IsUnion (fs.map (idsP (pstX X) m.2.1) ++ if oneL m [] = true then [wo] else []) u) : u = meantM X m := by
  refine up_ext hu.1 (selN_up X [m] X.length) fun x => ?_
  rw [hu.2.1]
  refine Iff.trans ?_ (meant_of hG x)
  constructor
  · rintro ⟨l, hl, hx⟩
    rcases List.mem_append.1 hl with hl | hl
    · obtain ⟨s, hs, rfl⟩ := List.mem_map.1 hl
      exact .inl ⟨s, (hf s (List.ne_nil_of_mem hx)).1 hs, hx⟩
    · split at hl
      · rename_i h1
        simp at hl
        subst hl
        exact .inr ⟨h1, (hw x).1 hx⟩
      · simp at hl
  · rintro (⟨s, h1, h2⟩ | ⟨h1, h2⟩)
    · exact ⟨_, List.mem_append_left _ (List.mem_map.2 ⟨s, (hf s (List.ne_nil_of_mem h2)).2 h1, rfl⟩), h2⟩
    · exact ⟨wo, List.mem_append_right _ (by rw [if_pos h1]; simp), (hw x).2 h2⟩
theorem without_mem {X : Ix} (hG : Good X) {n : Txt} {ss : List Txt} (hs : ∀ s, idsP (pstX X) n s ≠ [] → s ∈ ss) {u : List Int} (hu : IsUnion (ss.map (idsP (pstX X) n)) u) {al : List Int} (ha : Up al) (hal : ∀ x, x ∈ al ↔ ∃ i : Nat, i < X.length ∧ x = i) (x : Int) :
    x ∈ mergeL fNot al u ↔ noneN X n x := by
  rw [mem_not ha hu.1, hal, hu.2.1]
  unfold noneN
  constructor
  · rintro ⟨⟨i, hi, rfl⟩, h2⟩
    exact ⟨i, hi, rfl, fun v hv => h2 ⟨_, List.mem_map.2 ⟨v, hs v (List.ne_nil_of_mem hv), rfl⟩, hv⟩⟩
  · rintro ⟨i, hi, rfl, h2⟩
    refine ⟨⟨i, hi, rfl⟩, ?_⟩
    rintro ⟨l, hl, hx⟩
    obtain ⟨s, _, rfl⟩ := List.mem_map.1 hl
    exact h2 s hx
end Go.Proofs.YtdbifbgjbfnfmaaDoor
/-
  A range over a function, as these texts use it: the iterator may keep cells of its own between two rounds; regions that draw their order in a round. Plain lemmas; they name no program.
-/
namespace Go.Proofs.YtdbifbgjbfnfmaaDoor
open Go.RowKit Go.Deep
set_option linter.unusedVariables false

/-- A loop's own two blocks: its record, the rounds' deferred calls. -/
def bookObj : Obj → Bool
  | .loop _ => true
  | .deferred _ => true
  | _ => false
/-- J outlives new blocks, and whatever is done to blocks from n on that meet q. -/
def Bears {β : Type} (q : Obj → Bool) (n : Nat) (J : β → World → Prop) : Prop :=
  ∀ s A B F, J s A → Keeps F A B → (∀ k, k ∈ F → n ≤ k ∧ ∃ o : Obj, A.heap[k]? = some o ∧ q o = true) → J s B
theorem Bears.put {β : Type} {q : Obj → Bool} {n : Nat} {J : β → World → Prop} (h : Bears q n J) {s : β} {W : World} {k : Nat} {o : Obj} (o' : Obj) (hs : J s W) (hn : n ≤ k) (hk : W.heap[k]? = some o) (hq : q o = true) : J s (W.putObj k o') :=
  h s W _ [k] hs ⟨rfl, rfl, rfl, by simp, fun i hi hF => World.putObj_heap_other (by simpa using hF)⟩ (fun i hi => by
    obtain rfl : i = k := by simpa using hi
    exact ⟨hn, o, hk, hq⟩)
theorem Bears.alloc {β : Type} {q : Obj → Bool} {n : Nat} {J : β → World → Prop} (h : Bears q n J) {s : β} {W : World} (o : Obj) (hs : J s W) : J s (W.alloc o) :=
  h s W _ [] hs ((Keeps.refl [] W).alloc o) (fun i hi => by simp at hi)
/-- What a body does to a loop's two blocks: nothing. -/
def Books (B : Nat) (W W' : World) : Prop := ∀ (k : Nat) (o : Obj), B ≤ k → W.heap[k]? = some o → bookObj o = true → W'.heap[k]? = some o
theorem Books.of_keeps {B : Nat} {F : List Nat} {W W' : World} (h : Keeps F W W') (hF : ∀ k, k ∈ F → B ≤ k → ∀ o : Obj, W.heap[k]? = some o → bookObj o = false) : Books B W W' := fun k o hB hk hb => by
  refine h.block hk fun hf => ?_
  have := hF k hf hB o hk
  rw [hb] at this; cases this
theorem Books.refl (B : Nat) (W : World) : Books B W W := fun _ _ _ h _ => h
theorem Books.trans {B : Nat} {X Y Z : World} (h : Books B X Y) (k : Books B Y Z) : Books B X Z := fun i o hB hi hb => k i o hB (h i o hB hi hb) hb
theorem book_cells {w : World} {k : Nat} {cs : Array Value} {t : TypeId} {f : Nat × Nat} (h : w.heap[k]? = some (.cells cs t f)) : ∀ o : Obj, w.heap[k]? = some o → bookObj o = false := fun o ho => by
  rw [h] at ho; injection ho with ho; subst ho; rfl

/-- An iterator tells just the elements of xs, in their order, to a body that never leaves; q: which blocks it may turn between two rounds; Kp: what a round has to keep. -/
def Tells {α : Type} (F : Fence) (n : Nat) (P : Program) (g : Nat) (lb : Array Value) (encs : α → Array Value) (q : Obj → Bool) (Kp : World → World → Prop) (xs : List α) (w : World) : Prop :=
  ∀ (l : Nat) (J : List α → World → Prop) (W : World), Below w.heap.size w W → Bears q W.heap.size J →
    (∀ pre x rest W1, J pre W1 → xs = pre ++ x :: rest → YieldAt F (n - 1) P l (encs x) W1 fun e W' => e = .returned (.bool true) ∧ J (pre ++ [x]) W' ∧ Kp W1 W') → J [] W →
    CallsIn F n P g (#[.func (.yield l) #[] #[]] ++ lb) W fun e W' => (∃ v, e = .returned v) ∧ J xs W'

variable {F : Fence} {n : Nat} {P : Program}
/-- How a body that never leaves ends a round. -/
def roundEnd {α : Type} (B : Nat) (Kp : World → World → Prop) (I : List α → World → Prop) (ys : List α) (W : World) : Exit → Act → World → Prop
  | .normal, _, W' => Books B W W' ∧ Kp W W' ∧ I ys W'
  | _, _, _ => False
/-- The loop. -/
theorem loop_tells {α : Type} {g : Operand} {ps : Array Tmp} {assign body : Code} {Q : Exit → Act → World → Prop} {a : Act} {w : World} (hro : F.round = none) (h1 : 1 ≤ n)
    {gf : Nat} {lb : Array Value} (hg : a.eval g = .func (.func gf) #[] lb) (hFg : F.fn gf) (eg : ∀ args w, (callFunc gf args).run P w = .ok (.enter gf args) w)
    {encs : α → Array Value} {q : Obj → Bool} {Kp : World → World → Prop} {xs : List α} {w0 : World} (hseq : Tells F (n - 1) P gf lb encs q Kp xs w0) (hb0 : Below w0.heap.size w0 w) (hps : ∀ x, (encs x).size = ps.size)
    (hq : ∀ o, q o = true → bookObj o = false)
    (hKt : ∀ {A B C : World}, Kp A B → Kp B C → Kp A C) (hKb : ∀ (W : World) (k : Nat) (o o' : Obj), w.heap.size ≤ k → W.heap[k]? = some o → bookObj o = true → Kp W (W.putObj k o'))
    (I : List α → World → Prop) (hI : Bears (fun o => q o || bookObj o) w.heap.size I) (h0 : I [] w) (a₁ : α → Act)
    (hassign : ∀ (l : Nat) (x : α) (W : World) (K : Act → World → Prop), K (a₁ x) W →
      assign.wpIn (F.inRound l) (n - 1 - 1) P (Exit.then K (fun _ _ _ => False)) { tmps := (ps.zip (encs x)).foldl (fun t (p, v) => t.setIfInBounds p v) a.tmps, defers := [] } W)
    (hbody : ∀ (l : Nat) (pre : List α) (x : α) (rest : List α) (W : World), xs = pre ++ x :: rest → I pre W → body.wpIn (F.inRound l) (n - 1 - 1) P (roundEnd w.heap.size Kp I (pre ++ [x]) W) (a₁ x) W)
    (hdone : ∀ (D : Nat) (W : World), w.heap.size ≤ D → I xs W → W.heap[D]? = some (.deferred (some [])) → Q .normal { a with defers := { target := .collected D, args := #[] } :: a.defers } W) :
    (Code.rangeFunc g ps assign body).wpIn F n P Q a w := by
  refine wpIn_rangeFunc fun fn hfn => ?_
  rw [hro]
  have hbq : ∀ o : Obj, bookObj o = true → (q o || bookObj o) = true := fun o h => by rw [h]; simp
  generalize hD : w.heap.size = D at *
  obtain ⟨rc, hrc⟩ : ∃ rc : LoopState → Loop, rc = fun st => { state := st, pending := none, fn := fn, tmps := a.tmps, params := ps, assign := assign, body := body, defers := D } := ⟨_, rfl⟩
  have hent := run_enterLoop_outer (P := P) (w := w) fn a.tmps ps assign body
  rw [hD] at hent
  generalize hW1 : (w.alloc (.deferred (some []))).alloc (.loop { state := .ready, pending := none, fn := fn, tmps := a.tmps, params := ps, assign := assign, body := body, defers := D }) = W1 at hent
  have hk0 : W1.heap[D]? = some (.deferred (some [])) := by
    rw [← hW1, ← hD]; exact (Below.heap_alloc _ _ _ (by simp)).trans (World.alloc_heap_new w _)
  have hl0 : W1.heap[D + 1]? = some (.loop (rc .ready)) := by
    have h := World.alloc_heap_new (w.alloc (.deferred (some []))) (.loop (rc .ready))
    rw [World.size_alloc, hD, hrc] at h
    rw [← hW1, hrc]; exact h
  have hi0 : I [] W1 := by rw [← hW1]; exact hI.alloc _ (hI.alloc _ h0)
  have hb1 : Below w0.heap.size w0 W1 := by
    rw [← hW1]; exact hb0.trans ((((Below.refl _ w).alloc (Nat.le_refl _) _).alloc (by simp) _).mono hb0.size)
  have hsz : W1.heap.size = D + 2 := by rw [← hW1, ← hD]; simp
  refine ⟨D + 1, [{ target := .collected D, args := #[] }], W1, { target := .fn (.func gf) lb, args := #[.func (.yield (D + 1)) #[] #[]] }, W1, gf, #[.func (.yield (D + 1)) #[] #[]] ++ lb, W1, hent, ?_, ?_, ?_, fun _ => h1, ?_⟩
  · simp only [resolve, hg]
    simp [go_sem]
  · intro f' hf'
    simp [Target.leads] at hf'
    subst hf'
    exact hFg
  · simp [invoke, go_sem, eg]
  · have far : ∀ {A : World} {G : List Nat}, (∀ k, k ∈ G → W1.heap.size ≤ k ∧ ∃ o : Obj, A.heap[k]? = some o ∧ q o = true) → ∀ {k : Nat} {o : Obj}, A.heap[k]? = some o → bookObj o = true → k ∉ G := fun hG k o hk hb hm => by
      obtain ⟨_, o', h1, h2⟩ := hG k hm
      rw [hk] at h1; injection h1 with h1; subst h1
      rw [hq o h2] at hb; cases hb
    refine (hseq (D + 1) (fun pre W => I pre W ∧ W.heap[D + 1]? = some (.loop (rc .ready)) ∧ W.heap[D]? = some (.deferred (some []))) W1 hb1 ?_ ?_ ⟨hi0, hl0, hk0⟩).mono ?_
    · rintro s A B G ⟨hs, hl, hk⟩ hK hG
      exact ⟨hI s A B G hs hK (fun k hm => by obtain ⟨h1, o, h2, h3⟩ := hG k hm; exact ⟨by omega, o, h2, by simp [h3]⟩), hK.block hl (far hG hl rfl), hK.block hk (far hG hk rfl)⟩
    · rintro pre x rest W ⟨hs, hl, hk⟩ hx
      have hlt := lt_of_block hl
      have hy := run_yield (P := P) (args := encs x) hl (by rw [hrc]; exact hps x)
      rw [hrc] at hy
      have hbeg := run_beginRound (P := P) hl (by rw [hrc])
      refine ⟨fn, _, assign, body, hy, roundIn_of_wpIn hfn (hassign _ x W _ ⟨_, hbeg, ?_⟩)⟩
      have e1 : ({ rc .ready with state := .busy } : Loop) = rc .busy := by rw [hrc]
      rw [e1]
      have hl2 : (W.putObj (D + 1) (.loop (rc .busy))).heap[D + 1]? = some (.loop (rc .busy)) := World.putObj_heap_same hlt
      have hk2 : (W.putObj (D + 1) (.loop (rc .busy))).heap[D]? = some (.deferred (some [])) := (World.putObj_heap_other (by omega)).trans hk
      refine wpIn_mono (hbody _ pre x rest _ hx (hI.put _ hs (by omega) hl (hbq _ rfl))) ?_
      rintro e a3 W3 hp
      cases e with
      | normal =>
        obtain ⟨hbk, hkp, hi3⟩ := hp
        have hl3 := hbk _ _ (by omega) hl2 rfl
        have hk3 := hbk _ _ (Nat.le_refl _) hk2 rfl
        have hend := run_endRound (P := P) none hl3
        have e2 : ({ rc .busy with state := if (none : Option Code).isNone then .ready else .done, pending := none } : Loop) = rc .ready := by rw [hrc]; rfl
        rw [e2] at hend
        refine ⟨_, _, hend, rfl, ⟨hI.put _ hi3 (by omega) hl3 (hbq _ rfl), World.putObj_heap_same (lt_of_block hl3), (World.putObj_heap_other (by omega)).trans hk3⟩, ?_⟩
        exact hKt (hKt (hKb _ _ _ _ (by omega) hl rfl) hkp) (hKb _ _ _ _ (by omega) hl3 rfl)
      | ret => exact hp.elim
      | exit id => exact hp.elim
      | goto t => exact hp.elim
      | panic ch => exact hp.elim
      | outgrown => exact hp.elim
    · rintro e W2 ⟨⟨v, rfl⟩, hi2, hl2, hk2⟩
      have hend := run_endLoop (P := P) hl2 (by rw [hrc]; simp)
      refine ⟨none, _, by rw [hrc] at hend; exact hend, ?_⟩
      exact hdone D _ (Nat.le_refl _) (hI.put _ hi2 (by omega) hl2 (hbq _ rfl)) ((World.putObj_heap_other (by omega)).trans hk2)

/-! ### Regions that draw their order, in a round -/
/-- No operation defers. -/
def noDefer (ops : Array Oper) : Bool := ops.all fun o => match o.op with | .defer _ => false | _ => true
theorem get_lt {ops : Array Oper} {i : Nat} {o : Oper} (ho : ops[i]? = some o) : i < ops.size := (Array.getElem?_eq_some_iff.1 ho).1
theorem noDefer_at {ops : Array Oper} (h : noDefer ops = true) {i : Nat} {o : Oper} (ho : ops[i]? = some o) (c : Call) : o.op ≠ .defer c := by
  intro hc
  have h1 := Array.all_eq_true.1 h i (get_lt ho)
  have h2 : ops[i]'(get_lt ho) = o := by
    obtain ⟨h3, h4⟩ := Array.getElem?_eq_some_iff.1 ho; exact h4
  rw [h2, hc] at h1
  cases h1
/-- What is walked plainly is walked in a round, where nothing defers and nothing can outgrow. -/
theorem ops_round {ops : Array Oper} (hnd : noDefer ops = true) {Q : Exit → Act → World → Prop} (hout : ¬ LetsOut Q) (l : Nat) : ∀ (L : List Nat) (a : Act) (w : World), wpOps P ops Q L a w → wpOpsIn (Fence.wide.inRound l) n P ops Q L a w
  | [], _, _, h => h
  | i :: L, a, w, h => by
    have ih := ops_round hnd hout l L
    unfold wpOps at h
    unfold wpOpsIn
    cases ho : ops[i]? with
    | none => simp only [ho] at h ⊢; exact ih _ _ h
    | some o =>
      simp only [ho] at h ⊢
      by_cases hw : Region.wanted o (yielded ops a.tmps) = true
      · rw [if_pos hw] at h ⊢
        rcases h with h | h
        case inr => exact absurd h.2 hout
        refine ⟨fun _ _ => trivial, ?_⟩
        rw [Oper.semAt_plain _ _ _ (noDefer_at hnd ho)]
        unfold Oper.wp at h
        generalize (execOp a.eval o).run P w = r at h ⊢
        cases r with
        | halt x w' => cases x <;> exact h
        | ok x w' =>
          cases x with
          | value v => exact ih _ _ h
          | skip => exact ih _ _ h
          | defer d => exact ih _ _ h
          | enter f args =>
            refine ⟨fun h => (by simp [Fence.wide] at h), CallsIn.inRound l (callsIn_wide.2 (h.mono fun e w'' he => ?_))⟩
            cases e with
            | returned v => exact ih _ _ he
            | panicked c => exact he
            | outgrown => exact he
          | row row args => exact ⟨fun h => (by simp [Fence.wide] at h), fun c cs _ => by obtain ⟨v, w'', hr, hs⟩ := h c cs; exact ⟨v, w'', ih _ _ hr, stepsIn_wide.2 hs⟩⟩
          | round l f tmps assign body => exact h.elim
          | _ => exact h.elim
      · rw [if_neg hw] at h ⊢
        exact ⟨fun _ _ => trivial, ih _ _ h⟩
/-- A region that draws its order, in a round, out of its plain walk. -/
theorem region_round {ops : Array Oper} {Q : Exit → Act → World → Prop} {id l : Nat} {a : Act} {w : World} (hm : P.follows .mixedOrders = true) (hnd : noDefer ops = true) (hout : ¬ LetsOut Q)
    (h : wpAny P .any ops Q ops.size (Array.replicate ops.size false) a w.drew) : (Code.region id ops true).wpIn (Fence.wide.inRound l) n P Q a w :=
  wpIn_region_draw fun t => by
    simp only [Region.schedule, hm, Bool.true_or, if_true]
    exact ops_round hnd hout l _ _ _ (wpAny_sound ops.size t _ a _ h)
theorem region_round_held {ops : Array Oper} {Q : Exit → Act → World → Prop} {id l : Nat} {a : Act} {w : World} {S : World → Prop} (hm : P.follows .mixedOrders = true) (hnd : noDefer ops = true) (hout : ¬ LetsOut Q) (hS : S w.drew)
    (h : S w.drew → wpAnyH P .any ops Q S ops.size (Array.replicate ops.size false) a w.drew) : (Code.region id ops true).wpIn (Fence.wide.inRound l) n P Q a w :=
  region_round hm hnd hout (wpAny_of_held _ _ _ _ (h hS))
theorem roundEnd_out {α : Type} {B : Nat} {Kp : World → World → Prop} {I : List α → World → Prop} {ys : List α} {W : World} : ¬ LetsOut (roundEnd B Kp I ys W) := fun ⟨_, _, h⟩ => h
theorem then_out {K : Act → World → Prop} {Q : Exit → Act → World → Prop} (h : ¬ LetsOut Q) : ¬ LetsOut (Exit.then K Q) := h

/-! ### What a body spares -/
/-- All blocks of cells of another type than t, but those in F. -/
def Spares (F : List Nat) (t : TypeId) (W W' : World) : Prop := ∀ (k : Nat) (cs : Array Value) (ty : TypeId) (f : Nat × Nat), W.heap[k]? = some (.cells cs ty f) → ty ≠ t → k ∉ F → W'.heap[k]? = some (.cells cs ty f)
theorem Spares.trans {F : List Nat} {t : TypeId} {X Y Z : World} (h : Spares F t X Y) (k : Spares F t Y Z) : Spares F t X Z := fun i cs ty f hi ht hF => k i cs ty f (h i cs ty f hi ht hF) ht hF
theorem Spares.refl (F : List Nat) (t : TypeId) (W : World) : Spares F t W W := fun _ _ _ _ h _ _ => h
theorem Spares.of_keeps {F G : List Nat} {t : TypeId} {W W' : World} (h : Keeps G W W') (hG : ∀ k, k ∈ G → k ∈ F ∨ W.heap.size ≤ k ∨ ∃ cs f, W.heap[k]? = some (.cells cs t f)) : Spares F t W W' := fun k cs ty f hk ht hF => by
  refine h.block hk fun hg => ?_
  rcases hG k hg with h1 | h1 | ⟨cs', f', h1⟩
  · exact hF h1
  · have := lt_of_block hk; omega
  · rw [hk] at h1; injection h1 with h1; injection h1 with _ h1; exact ht h1
/-- What a round of a loop spares: what lay below n₀, and the others' cells. -/
def Spared (n₀ : Nat) (F : List Nat) (t : TypeId) (W W' : World) : Prop := Below n₀ W W' ∧ Spares F t W W'
theorem Spared.trans {n₀ : Nat} {F : List Nat} {t : TypeId} {X Y Z : World} (h : Spared n₀ F t X Y) (k : Spared n₀ F t Y Z) : Spared n₀ F t X Z := ⟨h.1.trans k.1, h.2.trans k.2⟩
theorem Spared.book {n₀ B : Nat} {F : List Nat} {t : TypeId} (hn : n₀ ≤ B) (W : World) (k : Nat) (o o' : Obj) (hk : B ≤ k) (h : W.heap[k]? = some o) (hb : bookObj o = true) : Spared n₀ F t W (W.putObj k o') := by
  have hK : Keeps [k] W (W.putObj k o') := ⟨rfl, rfl, rfl, by simp, fun i hi hF => World.putObj_heap_other (by simpa using hF)⟩
  refine ⟨hK.to (by have := lt_of_block h; omega) (fun f hf => by simp at hf; omega), fun i cs ty f hi _ _ => hK.block hi ?_⟩
  intro hm
  obtain rfl : i = k := by simpa using hm
  rw [hi] at h; injection h with h; subst h; cases hb

/-! ### A variable's box; 'x = append(x, ..)' -/
theorem not_book {W : World} {k m : Nat} {cs : Array Value} {t : TypeId} {f : Nat × Nat} {F : List Nat} {q : Obj → Bool} (h : W.heap[k]? = some (.cells cs t f)) (hF : ∀ k, k ∈ F → m ≤ k ∧ ∃ o : Obj, W.heap[k]? = some o ∧ q o = true) (hq : q (.cells cs t f) = false) : k ∉ F := fun hm => by
  obtain ⟨_, o, h1, h2⟩ := hF k hm
  rw [h] at h1; injection h1 with h1; subst h1
  rw [hq] at h2; cases h2
theorem row_block {W : World} {base : Nat} {e : TypeId} {size n : Nat} {v : Value} {xs : List Value} (h : W.ownsRow base e size v n xs) {k : Nat} (hk : v.ownBlock = some k) : ∃ cs, W.heap[k]? = some (.cells cs e (0, 0)) := by
  rcases h.2 with ⟨rfl, _⟩ | ⟨g, cap, cur, rfl, _, hg, _⟩
  · simp [Value.ownBlock] at hk
  · obtain rfl : g = k := by simpa [Value.ownBlock] using hk
    exact ⟨_, hg⟩
theorem box_keeps {F : List Nat} {W W' : World} {B : Nat} {t : TypeId} {v : Value} (h : Boxed W B t v) (hK : Keeps F W W') (hB : B ∉ F) : Boxed W' B t v := hK.block h hB
theorem box_below {w w' : World} {B n : Nat} {t : TypeId} {v : Value} (h : Boxed w B t v) (hb : Below n w w') (hn : w.heap.size ≤ n) : Boxed w' B t v := (hb.block B (Nat.lt_of_lt_of_le h.lt hn)).trans h
theorem box_far {W : World} {B b : Nat} {t : TypeId} {v : Value} (h : Boxed W B t v) (hne : B ≠ b) (u : Value) : Boxed (W.setCell ⟨b, 0, none⟩ u) B t v := blk_far h (p := ⟨b, 0, none⟩) hne u
theorem box_made {n : Nat} {W w : World} (h : Below n W w) (t : TypeId) (v : Value) : Boxed (w.alloc (.cells #[v] t)) w.heap.size t v := Boxed.new _ _ _
theorem mem_push {k B : Nat} {v : Value} : k ∈ B :: v.ownBlock.toList ↔ k = B ∨ v.ownBlock = some k := by
  rw [List.mem_cons]; simp
/-- Two blocks of cells of two types are two. -/
theorem ne_type {W : World} {k k' : Nat} {cs cs' : Array Value} {t t' : TypeId} {f f' : Nat × Nat} (h : W.heap[k]? = some (.cells cs t f)) (h' : W.heap[k']? = some (.cells cs' t' f')) (ht : t ≠ t') : k ≠ k' := by
  rintro rfl
  rw [h] at h'; injection h' with h'; injection h' with _ h'; exact ht h'
theorem push {W w1 : World} {n₀ B : Nat} {t e : TypeId} {v v' : Value} {k m : Nat} {xs ys : List Value} {tmp : Obj} {size : Nat} (hv : Boxed W B t v) (hte : t ≠ e) (hrow : W.ownsRow n₀ e size v k xs) (hn : n₀ ≤ W.heap.size) (hB : n₀ ≤ B)
    (hown : w1.ownsRow n₀ e size v' m ys) (hg : (W.alloc tmp).grownBy w1 v.ownBlock) :
    Boxed w1 B t v ∧ Boxed (w1.setCell ⟨B, 0, none⟩ v') B t v' ∧ (w1.setCell ⟨B, 0, none⟩ v').ownsRow n₀ e size v' m ys ∧ Keeps (B :: v.ownBlock.toList) W (w1.setCell ⟨B, 0, none⟩ v') := by
  obtain ⟨h1, h2, h3, _, _⟩ := hv.appended hte hrow hn hB hown hg
  exact ⟨h1, h2, h3, (((Keeps.refl _ W).alloc tmp).grown hg (fun k hk => .inl (by simp [hk]))).setCell (p := ⟨B, 0, none⟩) (.inl (by simp)) v'⟩
theorem listIn_app {w : World} {ops : Array Oper} {rest : List Oper} {o : Oper} {a : Act} {Q : Exit → Act → World → Prop}
    (hgd : o.guard = none) (s x : Operand) (t : TypeId) (hop : o.op = .call { callee := .builtin .append, args := #[s, x], argTypes := #[t, t] })
    (base : Nat) (e : TypeId) (i : TypeInfo) (z : Value) (size bytes : Nat) (ht : P.underlying t = some (.slice e)) (hi : P.info? e = some i) (hz : i.zero = some z)
    (hsize : i.size = size) (hby : i.bytes = bytes) (hzs : z.cells.size = size) (hsz : 0 < size)
    (v : Value) (k : Nat) (xs : List Value) (hs : a.eval s = v) (hown : w.ownsRow base e size v k xs)
    (ad : Addr) (m c : Nat) (news : List Value) (hx : a.eval x = .slice (some ad) m c) (hl : news.length = m * size) (hnews : ∀ j u, news[j]? = some u → w.cell? (ad.add j) = some u) (h1 : ∀ u ∈ news, u.oneCell' = true)
    (h63 : k + m ≤ maxLen) (hbytes : (k + m) * bytes ≤ 140737488355328) (hbase : base ≤ w.heap.size)
    (h : ∀ A cap w', w'.ownsRow base e size (.slice A (k + m) cap) (k + m) (xs ++ news) → w.grownBy w' v.ownBlock → (Value.ownBlock (.slice A (k + m) cap) = v.ownBlock ∨ Value.ownBlock (.slice A (k + m) cap) = some w.heap.size) → wpListIn F n P ops Q rest (a.put o.dst (.slice A (k + m) cap)) w') :
    wpListIn F n P ops Q (o :: rest) a w := by
  refine wpListIn_plain hgd fun K hK => ?_
  obtain ⟨v', w', hr, h2, h3, _, h5⟩ := run_append_own_at (P := P) w base t o.type e i z size bytes ht hi hz hsize hby hzs hsz v k xs hown ad m c news hl hnews h1 h63 hbytes hbase
  obtain ⟨A, cap, rfl⟩ := row_slice h2
  unfold Oper.wpIn
  refine ⟨fun f hf => ?_, ?_⟩
  · simp [Oper.about, hop, resolve, Target.leads, Sem.run_pure] at hf
  · rw [Oper.semAt_plain F _ _ (by rw [hop]; intro c hc; cases hc)]
    unfold execOp
    simp only [hop, resolve, invoke, builtin, Sem.run_bind, Sem.run_pure, Result.andThen_ok, List.map_toArray, List.map_cons, List.map_nil, hs, hx, hr]
    exact hK _ _ (h A cap w' h2 h3 h5)
end Go.Proofs.YtdbifbgjbfnfmaaDoor
/-
  A range over a function whose order is not known ahead. Plain lemmas; they name no program.
-/
namespace Go.Proofs.YtdbifbgjbfnfmaaDoor
open Go.RowKit Go.Deep
set_option linter.unusedVariables false

/-- An iterator tells elements one by one, in whatever order, to a body that never leaves: Pt: what may come next; S: when all have come; q: which blocks it may turn between two rounds; Kp: what a round has to keep. -/
def TellsP {α : Type} (F : Fence) (n : Nat) (P : Program) (g : Nat) (lb : Array Value) (encs : α → Array Value) (q : Obj → Bool) (Kp : World → World → Prop) (Pt : List α → α → Prop) (S : List α → Prop) (w : World) : Prop :=
  ∀ (l : Nat) (J : List α → World → Prop) (W : World), Below w.heap.size w W → Bears q W.heap.size J →
    (∀ pre x W1, J pre W1 → Pt pre x → YieldAt F (n - 1) P l (encs x) W1 fun e W' => e = .returned (.bool true) ∧ J (pre ++ [x]) W' ∧ Kp W1 W') → J [] W →
    CallsIn F n P g (#[.func (.yield l) #[] #[]] ++ lb) W fun e W' => (∃ v, e = .returned v) ∧ ∃ xs, S xs ∧ J xs W'
variable {F : Fence} {n : Nat} {P : Program}
/-- The loop. -/
theorem loop_tellsP {α : Type} {g : Operand} {ps : Array Tmp} {assign body : Code} {Q : Exit → Act → World → Prop} {a : Act} {w : World} (hro : F.round = none) (h1 : 1 ≤ n)
    {gf : Nat} {lb : Array Value} (hg : a.eval g = .func (.func gf) #[] lb) (hFg : F.fn gf) (eg : ∀ args w, (callFunc gf args).run P w = .ok (.enter gf args) w)
    {encs : α → Array Value} {q : Obj → Bool} {Kp : World → World → Prop} {Pt : List α → α → Prop} {S : List α → Prop} {w0 : World} (hseq : TellsP F (n - 1) P gf lb encs q Kp Pt S w0) (hb0 : Below w0.heap.size w0 w) (hps : ∀ x, (encs x).size = ps.size)
    (hq : ∀ o, q o = true → bookObj o = false)
    (hKt : ∀ {A B C : World}, Kp A B → Kp B C → Kp A C) (hKb : ∀ (W : World) (k : Nat) (o o' : Obj), w.heap.size ≤ k → W.heap[k]? = some o → bookObj o = true → Kp W (W.putObj k o'))
    (I : List α → World → Prop) (hI : Bears (fun o => q o || bookObj o) w.heap.size I) (h0 : I [] w) (a₁ : α → Act)
    (hassign : ∀ (l : Nat) (x : α) (W : World) (K : Act → World → Prop), K (a₁ x) W →
      assign.wpIn (F.inRound l) (n - 1 - 1) P (Exit.then K (fun _ _ _ => False)) { tmps := (ps.zip (encs x)).foldl (fun t (p, v) => t.setIfInBounds p v) a.tmps, defers := [] } W)
    (hbody : ∀ (l : Nat) (pre : List α) (x : α) (W : World), Pt pre x → I pre W → body.wpIn (F.inRound l) (n - 1 - 1) P (roundEnd w.heap.size Kp I (pre ++ [x]) W) (a₁ x) W)
    (hdone : ∀ (D : Nat) (W : World) (ys : List α), S ys → w.heap.size ≤ D → I ys W → W.heap[D]? = some (.deferred (some [])) → Q .normal { a with defers := { target := .collected D, args := #[] } :: a.defers } W) :
    (Code.rangeFunc g ps assign body).wpIn F n P Q a w := by
  refine wpIn_rangeFunc fun fn hfn => ?_
  rw [hro]
  have hbq : ∀ o : Obj, bookObj o = true → (q o || bookObj o) = true := fun o h => by rw [h]; simp
  generalize hD : w.heap.size = D at *
  obtain ⟨rc, hrc⟩ : ∃ rc : LoopState → Loop, rc = fun st => { state := st, pending := none, fn := fn, tmps := a.tmps, params := ps, assign := assign, body := body, defers := D } := ⟨_, rfl⟩
  have hent := run_enterLoop_outer (P := P) (w := w) fn a.tmps ps assign body
  rw [hD] at hent
  generalize hW1 : (w.alloc (.deferred (some []))).alloc (.loop { state := .ready, pending := none, fn := fn, tmps := a.tmps, params := ps, assign := assign, body := body, defers := D }) = W1 at hent
  have hk0 : W1.heap[D]? = some (.deferred (some [])) := by
    rw [← hW1, ← hD]; exact (Below.heap_alloc _ _ _ (by simp)).trans (World.alloc_heap_new w _)
  have hl0 : W1.heap[D + 1]? = some (.loop (rc .ready)) := by
    have h := World.alloc_heap_new (w.alloc (.deferred (some []))) (.loop (rc .ready))
    rw [World.size_alloc, hD, hrc] at h
    rw [← hW1, hrc]; exact h
  have hi0 : I [] W1 := by rw [← hW1]; exact hI.alloc _ (hI.alloc _ h0)
  have hb1 : Below w0.heap.size w0 W1 := by
    rw [← hW1]; exact hb0.trans ((((Below.refl _ w).alloc (Nat.le_refl _) _).alloc (by simp) _).mono hb0.size)
  have hsz : W1.heap.size = D + 2 := by rw [← hW1, ← hD]; simp
  refine ⟨D + 1, [{ target := .collected D, args := #[] }], W1, { target := .fn (.func gf) lb, args := #[.func (.yield (D + 1)) #[] #[]] }, W1, gf, #[.func (.yield (D + 1)) #[] #[]] ++ lb, W1, hent, ?_, ?_, ?_, fun _ => h1, ?_⟩
  · simp only [resolve, hg]
    simp [go_sem]
  · intro f' hf'
    simp [Target.leads] at hf'
    subst hf'
    exact hFg
  · simp [invoke, go_sem, eg]
  · have far : ∀ {A : World} {G : List Nat}, (∀ k, k ∈ G → W1.heap.size ≤ k ∧ ∃ o : Obj, A.heap[k]? = some o ∧ q o = true) → ∀ {k : Nat} {o : Obj}, A.heap[k]? = some o → bookObj o = true → k ∉ G := fun hG k o hk hb hm => by
      obtain ⟨_, o', h1, h2⟩ := hG k hm
      rw [hk] at h1; injection h1 with h1; subst h1
      rw [hq o h2] at hb; cases hb
    refine (hseq (D + 1) (fun pre W => I pre W ∧ W.heap[D + 1]? = some (.loop (rc .ready)) ∧ W.heap[D]? = some (.deferred (some []))) W1 hb1 ?_ ?_ ⟨hi0, hl0, hk0⟩).mono ?_
    · rintro s A B G ⟨hs, hl, hk⟩ hK hG
      exact ⟨hI s A B G hs hK (fun k hm => by obtain ⟨h1, o, h2, h3⟩ := hG k hm; exact ⟨by omega, o, h2, by simp [h3]⟩), hK.block hl (far hG hl rfl), hK.block hk (far hG hk rfl)⟩
    · rintro pre x W ⟨hs, hl, hk⟩ hx
      have hlt := lt_of_block hl
      have hy := run_yield (P := P) (args := encs x) hl (by rw [hrc]; exact hps x)
      rw [hrc] at hy
      have hbeg := run_beginRound (P := P) hl (by rw [hrc])
      refine ⟨fn, _, assign, body, hy, roundIn_of_wpIn hfn (hassign _ x W _ ⟨_, hbeg, ?_⟩)⟩
      have e1 : ({ rc .ready with state := .busy } : Loop) = rc .busy := by rw [hrc]
      rw [e1]
      have hl2 : (W.putObj (D + 1) (.loop (rc .busy))).heap[D + 1]? = some (.loop (rc .busy)) := World.putObj_heap_same hlt
      have hk2 : (W.putObj (D + 1) (.loop (rc .busy))).heap[D]? = some (.deferred (some [])) := (World.putObj_heap_other (by omega)).trans hk
      refine wpIn_mono (hbody _ pre x _ hx (hI.put _ hs (by omega) hl (hbq _ rfl))) ?_
      rintro e a3 W3 hp
      cases e with
      | normal =>
        obtain ⟨hbk, hkp, hi3⟩ := hp
        have hl3 := hbk _ _ (by omega) hl2 rfl
        have hk3 := hbk _ _ (Nat.le_refl _) hk2 rfl
        have hend := run_endRound (P := P) none hl3
        have e2 : ({ rc .busy with state := if (none : Option Code).isNone then .ready else .done, pending := none } : Loop) = rc .ready := by rw [hrc]; rfl
        rw [e2] at hend
        refine ⟨_, _, hend, rfl, ⟨hI.put _ hi3 (by omega) hl3 (hbq _ rfl), World.putObj_heap_same (lt_of_block hl3), (World.putObj_heap_other (by omega)).trans hk3⟩, ?_⟩
        exact hKt (hKt (hKb _ _ _ _ (by omega) hl rfl) hkp) (hKb _ _ _ _ (by omega) hl3 rfl)
      | ret => exact hp.elim
      | exit id => exact hp.elim
      | goto t => exact hp.elim
      | panic ch => exact hp.elim
      | outgrown => exact hp.elim
    · rintro e W2 ⟨⟨v, rfl⟩, ys, hS, hi2, hl2, hk2⟩
      have hend := run_endLoop (P := P) hl2 (by rw [hrc]; simp)
      refine ⟨none, _, by rw [hrc] at hend; exact hend, ?_⟩
      exact hdone D _ ys hS (Nat.le_refl _) (hI.put _ hi2 (by omega) hl2 (hbq _ rfl)) ((World.putObj_heap_other (by omega)).trans hk2)
end Go.Proofs.YtdbifbgjbfnfmaaDoor
/-
  A region that draws its order, taken by hand, inside a fence and in a round (XHeld's way): the one call that may come up may be a loop's own yield. Plain lemmas; they name no program.
-/
namespace Go.Proofs.YtdbifbgjbfnfmaaDoor
open Go.RowKit Go.Deep
set_option linter.unusedVariables false
section
variable {F : Fence} {n : Nat} {P : Program} {ops : Array Oper} {Q : Exit → Act → World → Prop} {md : Region.Mode} {S : World → Prop}
theorem wpIn_plain (hF : ∀ f, F.fn f) (hnd : noDefer ops = true) {j : Nat} {o : Oper} (ho : ops[j]? = some o) (a : Act) (w : World) (K : Act → World → Prop) :
    o.wpIn F n P a w K Q ↔ o.uponIn F n P a K Q ((execOp a.eval o).run P w) := by
  unfold Oper.wpIn
  rw [Oper.semAt_plain _ _ _ (noDefer_at hnd ho)]
  exact ⟨fun h => h.2, fun h => ⟨fun f _ => hF f, h⟩⟩
/-- Of two operations that are apart either may come first, where the one's value hangs on S alone. -/
theorem opIn_swap (hF : ∀ f, F.fn f) (hnd : noDefer ops = true) {j : Nat} {oi oj : Oper} {v : Value} (hj : ops[j]? = some oj) (hap : oi.apart ops oj = true) (hsi : ∀ cs b, oi.op ≠ .select cs b) (hsj : ∀ cs b, oj.op ≠ .select cs b)
    (hQ : ∀ c a w, Q (.panic c) (a.put oi.dst v) w → Q (.panic c) a w) {K : Act → World → Prop} {a : Act} {w : World} (hy : YieldsIf P ops S oi v a) (h : wpOpIn F n P ops Q j K (a.put oi.dst v) w) :
    wpOpIn F n P ops Q j (fun a' w' => YieldsIf P ops S oi v a' ∧ K (a'.put oi.dst v) w') a w := by
  obtain ⟨h1, h2, h3⟩ := Oper.apart_spec hap
  have stay : ∀ u, YieldsIf P ops S oi v (a.put oj.dst u) := fun u => hy.of_same (execOp_put oi hsi a oj.dst u h3) (wanted_put oi a oj.dst u h3)
  unfold wpOpIn at h ⊢
  rw [hj] at h ⊢
  simp only at h ⊢
  rw [wanted_put oj a oi.dst v h1] at h
  by_cases hw : Region.wanted oj (yielded ops a.tmps) = true
  · rw [if_pos hw] at h ⊢
    rw [wpIn_plain hF hnd hj, execOp_put oj hsj a oi.dst v h1] at h
    rw [wpIn_plain hF hnd hj]
    generalize (execOp a.eval oj).run P w = r at h ⊢
    have back : ∀ u w', K ((a.put oi.dst v).put oj.dst u) w' → YieldsIf P ops S oi v (a.put oj.dst u) ∧ K ((a.put oj.dst u).put oi.dst v) w' := fun u w' hk => ⟨stay u, by rw [← Act.put_comm a v u h2]; exact hk⟩
    cases r with
    | halt x w' => cases x <;> first | exact h.elim | exact hQ _ _ _ h
    | ok x w' =>
      cases x with
      | value u => exact back u _ h
      | skip => exact back _ _ h
      | defer d =>
        refine ⟨(hy.of_same (a' := { a with defers := d :: a.defers }) rfl rfl).of_same (execOp_put oi hsi _ oj.dst _ h3) (wanted_put oi _ oj.dst _ h3), ?_⟩
        rw [← Act.put_comm _ v undef h2, ← Act.put_defers]
        exact h
      | enter f args =>
        refine ⟨h.1, h.2.mono fun e w'' he => ?_⟩
        cases e with
        | returned u => exact back u _ he
        | panicked c => exact hQ _ _ _ he
        | outgrown => exact he
      | row row args => exact ⟨h.1, h.2.mono fun u w'' he => back u _ he⟩
      | round l f tmps assign body =>
        refine ⟨h.1, h.2.mono fun e w'' he => ?_⟩
        cases e with
        | returned u => exact back u _ he
        | panicked c => exact hQ _ _ _ he
        | outgrown => exact he
      | _ => exact h.elim
  · rw [if_neg hw] at h ⊢
    exact ⟨fun f _ => hF f, stay undef, by rw [← Act.put_comm a v undef h2]; exact h.2⟩
/-- Whatever order is picked, S holding behind each operation. -/
def anyIn (F : Fence) (n : Nat) (P : Program) (md : Region.Mode) (ops : Array Oper) (Q : Exit → Act → World → Prop) (S : World → Prop) : Nat → Array Bool → Act → World → Prop
  | 0, listed, a, w => Region.ready md ops listed = [] ∧ Q .normal a w
  | fuel + 1, listed, a, w => (Region.ready md ops listed = [] → Q .normal a w) ∧
    ∀ i, i ∈ Region.ready md ops listed → wpOpIn F n P ops Q i (fun a' w' => S w' ∧ anyIn F n P md ops Q S fuel (listed.setIfInBounds i true) a' w') a w
theorem anyIn_out : ∀ (fuel : Nat) (listed : Array Bool) (a : Act) (w : World), anyIn F n P md ops Q S fuel listed a w → wpAnyIn F n P md ops Q fuel listed a w
  | 0, _, _, _, h => h
  | fuel + 1, _, _, _, h => ⟨h.1, fun i hi => wpOpIn_mono (fun a' w' h' => anyIn_out fuel _ a' w' h'.2) (h.2 i hi)⟩
/-- An operation whose value hangs on S alone may be taken first. -/
theorem anyIn_first (hF : ∀ f, F.fn f) (hnd : noDefer ops = true) {i : Nat} {oi : Oper} {v : Value} (hi : ops[i]? = some oi) (hs : Region.noSelect ops = true) (hQ : ∀ c a w, Q (.panic c) (a.put oi.dst v) w → Q (.panic c) a w) :
    ∀ (fuel : Nat) (listed : Array Bool) (a : Act) (w : World),
      (∀ j oj, ops[j]? = some oj → j ≠ i → listed.getD j true = false → (∀ e ∈ oj.after, Region.binds md e = true → e.on ≠ i) → oi.apart ops oj = true) →
      i ∈ Region.ready md ops listed → YieldsIf P ops S oi v a → S w → anyIn F n P md ops Q S fuel (listed.setIfInBounds i true) (a.put oi.dst v) w → anyIn F n P md ops Q S (fuel + 1) listed a w
  | fuel, listed, a, w, hfree, hr, hy, hS, H => by
    have hsel := Region.noSelect_spec hs
    refine ⟨fun h => absurd hr (by rw [h]; simp), fun j hj => ?_⟩
    by_cases hji : j = i
    · subst hji
      unfold wpOpIn
      rw [hi]
      simp only
      rcases hy with ⟨hw, hv⟩ | ⟨hw, rfl⟩
      · rw [if_pos hw, wpIn_plain hF hnd hi, hv w hS]
        exact ⟨hS, H⟩
      · rw [if_neg (by rw [hw]; simp)]
        exact ⟨fun f _ => hF f, hS, H⟩
    · have hj' := ready_mono hj hji
      cases fuel with
      | zero => rw [H.1] at hj'; cases hj'
      | succ fuel =>
        obtain ⟨hjun, oj, hoj, hall⟩ := mem_ready.1 hj
        have hnot : ∀ e ∈ oj.after, Region.binds md e = true → e.on ≠ i := fun e he hb heq => by
          have h1 := hall e he hb
          have h0 := (mem_ready.1 hr).1
          rw [heq] at h1
          rcases Nat.lt_or_ge i listed.size with h' | h'
          · simp [h'] at h0 h1; rw [h0] at h1; cases h1
          · simp [Array.getElem?_eq_none h'] at h1
        refine wpOpIn_mono ?_ (opIn_swap hF hnd hoj (hfree j oj hoj hji hjun hnot) (fun cs b => hsel i oi cs b hi) (fun cs b => hsel j oj cs b hoj) hQ hy (H.2 j hj'))
        rintro a' w' ⟨h1, h2, h3⟩
        refine ⟨h2, anyIn_first hF hnd hi hs hQ fuel (listed.setIfInBounds j true) a' w' (fun k ok hk hki hun hno => ?_) (ready_mono hr (Ne.symm hji)) h1 h2 (by rw [Array.setIfInBounds_comm _ _ hji]; exact h3)⟩
        refine hfree k ok hk hki ?_ hno
        by_cases hjk : j = k
        · subst hjk; exact hjun
        · rwa [getD_set_ne true hjk] at hun
theorem heldIn_w (hF : ∀ f, F.fn f) (hnd : noDefer ops = true) {i : Nat} {d : Option Nat} {v : Value} {fuel : Nat} {listed : Array Bool} {a : Act} {w : World} (hd : (ops[i]?).map (·.dst) = some d)
    (hs : Region.noSelect ops = true) (hf : Region.free md ops listed i = true) (hr : (Region.ready md ops listed).contains i = true)
    (hQ : ∀ c a w, Q (.panic c) (a.put d v) w → Q (.panic c) a w) (hw : (ops[i]?).map (fun o => Region.wanted o (yielded ops a.tmps)) = some true)
    (hy : ∀ w', S w' → match ops[i]? with | some o => (execOp a.eval o).run P w' = .ok (.value v) w' | none => True) (hS : S w)
    (h : anyIn F n P md ops Q S fuel (listed.setIfInBounds i true) (a.put d v) w) : anyIn F n P md ops Q S (fuel + 1) listed a w := by
  cases ho : ops[i]? with
  | none => rw [ho] at hd; cases hd
  | some o =>
    rw [ho] at hd hw
    simp only [Option.map_some, Option.some.injEq] at hd hw
    subst hd
    exact anyIn_first hF hnd ho hs hQ fuel listed a w (Region.free_spec ho hf) (by simpa using hr) (.inl ⟨hw, fun w' hSw => by have := hy w' hSw; rw [ho] at this; exact this⟩) hS h
theorem heldIn_u (hF : ∀ f, F.fn f) (hnd : noDefer ops = true) {i : Nat} {d : Option Nat} {fuel : Nat} {listed : Array Bool} {a : Act} {w : World} (hd : (ops[i]?).map (·.dst) = some d)
    (hs : Region.noSelect ops = true) (hf : Region.free md ops listed i = true) (hr : (Region.ready md ops listed).contains i = true)
    (hQ : ∀ c a w, Q (.panic c) (a.put d undef) w → Q (.panic c) a w) (hw : (ops[i]?).map (fun o => Region.wanted o (yielded ops a.tmps)) = some false) (hS : S w)
    (h : anyIn F n P md ops Q S fuel (listed.setIfInBounds i true) (a.put d undef) w) : anyIn F n P md ops Q S (fuel + 1) listed a w := by
  cases ho : ops[i]? with
  | none => rw [ho] at hd; cases hd
  | some o =>
    rw [ho] at hd hw
    simp only [Option.map_some, Option.some.injEq] at hd hw
    subst hd
    exact anyIn_first hF hnd ho hs hQ fuel listed a w (Region.free_spec ho hf) (by simpa using hr) (.inr ⟨hw, rfl⟩) hS h
/-- Operation i alone may come up. -/
theorem heldIn_c (hF : ∀ f, F.fn f) (hnd : noDefer ops = true) {i : Nat} {fuel : Nat} {listed : Array Bool} {a : Act} {w : World} (hr : Region.ready md ops listed = [i]) (hw : (ops[i]?).map (fun o => Region.wanted o (yielded ops a.tmps)) = some true)
    (h : ∀ K : Act → World → Prop, Shut (∀ a w, S w → (S w → anyIn F n P md ops Q S fuel (listed.setIfInBounds i true) a w) → K a w) → match ops[i]? with | some o => o.uponIn F n P a K Q ((execOp a.eval o).run P w) | none => True) :
    anyIn F n P md ops Q S (fuel + 1) listed a w := by
  refine ⟨fun h0 => (by rw [hr] at h0; cases h0), fun j hj => ?_⟩
  rw [hr] at hj
  obtain rfl : j = i := by simpa using hj
  cases ho : ops[j]? with
  | none => rw [ho] at hw; cases hw
  | some o =>
    rw [ho] at hw h
    simp only [Option.map_some, Option.some.injEq] at hw
    unfold wpOpIn
    rw [ho]
    simp only
    rw [if_pos hw, wpIn_plain hF hnd ho]
    exact h _ (fun a w hS h => ⟨hS, h hS⟩)
theorem anyIn_gen {fuel : Nat} {listed : Array Bool} {a : Act} {w : World} (h : ∀ Wc, Wc = w → anyIn F n P md ops Q S fuel listed a Wc) : anyIn F n P md ops Q S fuel listed a w := h w rfl
def InComes (F : Fence) (n : Nat) (P : Program) (ops : Array Oper) (Q : Exit → Act → World → Prop) (md : Region.Mode) (S : World → Prop) (fuel : Nat) (listed : Array Bool) (a : Act) (w : World) : List Nat → Prop
  | [] => True
  | i :: rs => ((ops[i]?).map (fun o => Region.wanted o (yielded ops a.tmps)) = some true ∧
      ∀ K : Act → World → Prop, Shut (∀ a w, S w → (S w → anyIn F n P md ops Q S fuel (listed.setIfInBounds i true) a w) → K a w) → match ops[i]? with | some o => o.uponIn F n P a K Q ((execOp a.eval o).run P w) | none => True) ∧
    InComes F n P ops Q md S fuel listed a w rs
/-- Several may come up. -/
theorem heldIn_many (hF : ∀ f, F.fn f) (hnd : noDefer ops = true) {rs : List Nat} {fuel : Nat} {listed : Array Bool} {a : Act} {w : World} (hr : Region.ready md ops listed = rs) (hne : rs ≠ []) (h : InComes F n P ops Q md S fuel listed a w rs) :
    anyIn F n P md ops Q S (fuel + 1) listed a w := by
  refine ⟨fun h0 => absurd (hr ▸ h0) hne, fun j hj => ?_⟩
  rw [hr] at hj
  clear hr hne
  induction rs with
  | nil => cases hj
  | cons i rs ih =>
    obtain ⟨⟨hw, h1⟩, h2⟩ := h
    rcases List.mem_cons.1 hj with rfl | hj
    · cases ho : ops[j]? with
      | none => rw [ho] at hw; cases hw
      | some o =>
        rw [ho] at hw h1
        simp only [Option.map_some, Option.some.injEq] at hw
        unfold wpOpIn
        rw [ho]
        simp only
        rw [if_pos hw, wpIn_plain hF hnd ho]
        exact h1 _ (fun a w hS h => ⟨hS, h hS⟩)
    · exact ih h2 hj
theorem anyIn_done {listed : Array Bool} {a : Act} {w : World} (hr : Region.ready md ops listed = []) (h : Q .normal a w) : ∀ fuel, anyIn F n P md ops Q S fuel listed a w
  | 0 => ⟨hr, h⟩
  | _ + 1 => ⟨fun _ => h, fun i hi => by rw [hr] at hi; cases hi⟩
theorem region_heldIn {id : Nat} {a : Act} {w : World} (hm : P.follows .mixedOrders = true) (hS : S w.drew) (h : S w.drew → anyIn F n P .any ops Q S ops.size (Array.replicate ops.size false) a w.drew) : (Code.region id ops true).wpIn F n P Q a w :=
  wpIn_region_any hm (anyIn_out _ _ _ _ (h hS))
end
end Go.Proofs.YtdbifbgjbfnfmaaDoor
