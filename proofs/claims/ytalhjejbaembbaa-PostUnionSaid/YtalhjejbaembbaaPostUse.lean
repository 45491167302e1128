/-
  Layer 6 (post): the functions' contracts over rows of the call's own, as the laws use them.
-/
import Derived.Test.YtalhjejbaembbaaPostSet
namespace Go.Proofs.Ytalhjejbaembbaa
open Go.RowKit Go.Deep
set_option linter.unusedVariables false
set_option linter.unusedSimpArgs false
/-- A row that is anywhere. -/
abbrev Row (w : World) (A : Option Addr) (cap : Nat) (l : List Int) : Prop := NewI 0 (.slice A l.length cap) l w
theorem Row.at {w : World} {A : Option Addr} {cap : Nat} {l : List Int} (h : Row w A cap l) : IAt w A l.length cap l := by
  obtain ⟨A1, c1, e, hI⟩ := NewI.at h
  injection e with e1 e2 e3
  subst e1 e3
  exact hI
theorem Row.below {w w' : World} {A : Option Addr} {cap : Nat} {l : List Int} (h : Row w A cap l) (hb : Below w.heap.size w w') : Row w' A cap l := NewI.below h hb
/-- What a call that makes a row answers. -/
abbrev Makes (w : World) (R : List Int) (e : Ending) (w' : World) : Prop := (∃ A c, e = .returned (.slice A R.length c) ∧ Row w' A c R) ∧ Below w.heap.size w w'
theorem makes_of {w w' : World} {R : List Int} {e : Ending} {v : Value} {B : Nat} (he : e = .returned v) (hN : NewI B v R w') (hb : Below w.heap.size w w') : Makes w R e w' := by
  obtain ⟨A1, c1, rfl, _⟩ := hN.at
  exact ⟨⟨A1, c1, he, hN.mono (Nat.zero_le _)⟩, hb⟩
theorem rising_u {A : Option Addr} {len cap : Nat} {l R : List Int} {w : World} (hR : risL l = R) (hl : len ≤ 9223372036854775807) (hA : IAt w A len cap l) :
    Calls Try.prog 8 #[.slice A len cap] w (Makes w R) := by
  subst hR
  refine (rising_c A len cap l w hl hA).mono ?_
  rintro e w1 ⟨⟨v, he, hN⟩, hb⟩
  exact makes_of he hN hb
theorem and_u {A A' : Option Addr} {cap cap' : Nat} {l m R : List Int} {w : World} (hR : mergeL fAnd l m = R) (hl : l.length ≤ 10000) (hm : m.length ≤ 10000) (hA : Row w A cap l) (hB : Row w A' cap' m) :
    Calls Try.prog 9 #[.slice A l.length cap, .slice A' m.length cap'] w (Makes w R) := by
  subst hR
  refine (and_c A A' l.length m.length cap cap' l m w hl hm hA.at hB.at).mono ?_
  rintro e w1 ⟨⟨v, he, hN⟩, hb⟩
  exact makes_of he hN hb
theorem or_u {A A' : Option Addr} {cap cap' : Nat} {l m R : List Int} {w : World} (hR : mergeL fOr l m = R) (hl : l.length ≤ 10000) (hm : m.length ≤ 10000) (hA : Row w A cap l) (hB : Row w A' cap' m) :
    Calls Try.prog 10 #[.slice A l.length cap, .slice A' m.length cap'] w (Makes w R) := by
  subst hR
  refine (or_c A A' l.length m.length cap cap' l m w hl hm hA.at hB.at).mono ?_
  rintro e w1 ⟨⟨v, he, hN⟩, hb⟩
  exact makes_of he hN hb
theorem not_u {A A' : Option Addr} {cap cap' : Nat} {l m R : List Int} {w : World} (hR : mergeL fNot l m = R) (hl : l.length ≤ 10000) (hm : m.length ≤ 10000) (hA : Row w A cap l) (hB : Row w A' cap' m) :
    Calls Try.prog 11 #[.slice A l.length cap, .slice A' m.length cap'] w (Makes w R) := by
  subst hR
  refine (not_c A A' l.length m.length cap cap' l m w hl hm hA.at hB.at).mono ?_
  rintro e w1 ⟨⟨v, he, hN⟩, hb⟩
  exact makes_of he hN hb
theorem refAnd_u {A A' : Option Addr} {cap cap' : Nat} {l m R : List Int} {w : World} (hR : andL l m = R) (hl : l.length ≤ 10000) (hm : m.length ≤ 10000) (hA : Row w A cap l) (hB : Row w A' cap' m) :
    Calls Try.prog 15 #[.slice A l.length cap, .slice A' m.length cap'] w (Makes w R) := by
  subst hR
  refine (refAnd_c A A' l.length m.length cap cap' l m w hl hm hA.at hB.at).mono ?_
  rintro e w1 ⟨⟨v, he, hN⟩, hb⟩
  exact makes_of he hN hb
theorem refOr_u {A A' : Option Addr} {cap cap' : Nat} {l m R : List Int} {w : World} (hR : mergeL fOr l m = R) (hl : l.length ≤ 10000) (hm : m.length ≤ 10000) (hA : Row w A cap l) (hB : Row w A' cap' m) :
    Calls Try.prog 16 #[.slice A l.length cap, .slice A' m.length cap'] w (Makes w R) := by
  subst hR
  refine (refOr_c A A' l.length m.length cap cap' l m w hl hm hA.at hB.at).mono ?_
  rintro e w1 ⟨⟨v, he, hN⟩, hb⟩
  exact makes_of he hN hb
theorem refNot_u {A A' : Option Addr} {cap cap' : Nat} {l m R : List Int} {w : World} (hR : notL l m = R) (hl : l.length ≤ 10000) (hm : m.length ≤ 10000) (hA : Row w A cap l) (hB : Row w A' cap' m) :
    Calls Try.prog 17 #[.slice A l.length cap, .slice A' m.length cap'] w (Makes w R) := by
  subst hR
  refine (refNot_c A A' l.length m.length cap cap' l m w hl hm hA.at hB.at).mono ?_
  rintro e w1 ⟨⟨v, he, hN⟩, hb⟩
  exact makes_of he hN hb
theorem same_u {A A' : Option Addr} {cap cap' : Nat} {l m : List Int} {b : Bool} {w : World} (hR : decide (l = m) = b) (hl : l.length ≤ 10000) (hm : m.length ≤ 10000) (hA : Row w A cap l) (hB : Row w A' cap' m) :
    Calls Try.prog 14 #[.slice A l.length cap, .slice A' m.length cap'] w fun e w' => e = .returned (.bool b) ∧ Below w.heap.size w w' := by
  subst hR
  exact same_c A A' l.length m.length cap cap' l m w (by omega) (by omega) hA.at hB.at
theorem has_u {A : Option Addr} {cap : Nat} {l : List Int} {n : Int} {b : Bool} {w : World} (hR : decide (n ∈ l) = b) (hl : l.length ≤ 10000) (hu : Up l) (hA : Row w A cap l) :
    Calls Try.prog 18 #[.slice A l.length cap, .int .i64 n] w fun e w' => e = .returned (.bool b) ∧ Below w.heap.size w w' := by
  subst hR
  exact has_c A cap l n w (by omega) hu hA
theorem rises_u {A : Option Addr} {cap : Nat} {l : List Int} {b : Bool} {w : World} (hR : decide (Up l) = b) (hl : l.length ≤ 10000) (hA : Row w A cap l) :
    Calls Try.prog 12 #[.slice A l.length cap] w fun e w' => e = .returned (.bool b) ∧ Below w.heap.size w w' := by
  subst hR
  exact rises_c A l.length cap l w (by omega) hA.at
end Go.Proofs.Ytalhjejbaembbaa
