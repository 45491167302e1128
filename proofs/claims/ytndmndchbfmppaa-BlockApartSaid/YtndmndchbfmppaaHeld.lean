/-
  A region that draws its order, taken by hand: an operation is told by its number and its slot alone. Plain lemmas; they name no program.
-/
import Derived.Test.YtndmndchbfmppaaMem
import Derived.Deep.RegionHeld3
namespace Go.Proofs.Ytndmndchbfmppaa
open Go.RowKit Go.Deep
/-- Left in the plain way alone. -/
def OnlyN (R : Act → World → Prop) : Exit → Act → World → Prop
  | .normal, a, w => R a w
  | _, _, _ => False
theorem only_imp {R : Act → World → Prop} {Q : Exit → Act → World → Prop} (h : ∀ a w, R a w → Q .normal a w) : ∀ e a w, OnlyN R e a w → Q e a w := fun e a w hr => by
  cases e <;> first | exact h _ _ hr | exact hr.elim
section
variable {P : Program} {ops : Array Oper} {Q : Exit → Act → World → Prop} {md : Region.Mode} {S : World → Prop}
/-- Operation i runs, yields v in every world that meets S, and is taken first. -/
theorem held_w {i : Nat} {d : Option Nat} {v : Value} {fuel : Nat} {listed : Array Bool} {a : Act} {w : World} (hd : (ops[i]?).map (·.dst) = some d)
    (hs : Region.noSelect ops = true) (hf : Region.free md ops listed i = true) (hr : (Region.ready md ops listed).contains i = true)
    (hQ : ∀ c a w, Q (.panic c) (a.put d v) w → Q (.panic c) a w) (hw : (ops[i]?).map (fun o => Region.wanted o (yielded ops a.tmps)) = some true)
    (hy : ∀ w', S w' → match ops[i]? with | some o => (execOp a.eval o).run P w' = .ok (.value v) w' | none => True) (hS : S w)
    (h : wpAnyH P md ops Q S fuel (listed.setIfInBounds i true) (a.put d v) w) : wpAnyH P md ops Q S (fuel + 1) listed a w := by
  cases ho : ops[i]? with
  | none => rw [ho] at hd; cases hd
  | some o =>
    rw [ho] at hd hw
    simp only [Option.map_some, Option.some.injEq] at hd hw
    subst hd
    exact wpAnyH_take ho hs hf hr hQ (.inl ⟨hw, fun w' hSw => by have := hy w' hSw; rw [ho] at this; exact this⟩) hS h
/-- Operation i is not wanted: its guard is false. -/
theorem held_u {i : Nat} {d : Option Nat} {fuel : Nat} {listed : Array Bool} {a : Act} {w : World} (hd : (ops[i]?).map (·.dst) = some d)
    (hs : Region.noSelect ops = true) (hf : Region.free md ops listed i = true) (hr : (Region.ready md ops listed).contains i = true)
    (hQ : ∀ c a w, Q (.panic c) (a.put d undef) w → Q (.panic c) a w) (hw : (ops[i]?).map (fun o => Region.wanted o (yielded ops a.tmps)) = some false) (hS : S w)
    (h : wpAnyH P md ops Q S fuel (listed.setIfInBounds i true) (a.put d undef) w) : wpAnyH P md ops Q S (fuel + 1) listed a w := by
  cases ho : ops[i]? with
  | none => rw [ho] at hd; cases hd
  | some o =>
    rw [ho] at hd hw
    simp only [Option.map_some, Option.some.injEq] at hd hw
    subst hd
    exact wpAnyH_take ho hs hf hr hQ (.inr ⟨hw, rfl⟩) hS h
/-- Operation i alone may come up. -/
theorem held_c {i : Nat} {fuel : Nat} {listed : Array Bool} {a : Act} {w : World} (hr : Region.ready md ops listed = [i]) (hw : (ops[i]?).map (fun o => Region.wanted o (yielded ops a.tmps)) = some true)
    (h : ∀ K : Act → World → Prop, Shut (∀ a w, S w → (S w → wpAnyH P md ops Q S fuel (listed.setIfInBounds i true) a w) → K a w) → match ops[i]? with | some o => Oper.wp P o a w K Q | none => True) :
    wpAnyH P md ops Q S (fuel + 1) listed a w := by
  cases ho : ops[i]? with
  | none => rw [ho] at hw; cases hw
  | some o =>
    refine wpAnyH_ready hr (by simp) (AllReadyH.cons ho (fun K hK => ?_) AllReadyH.nil)
    rw [ho] at hw
    simp only [Option.map_some, Option.some.injEq] at hw
    rw [if_pos hw]
    have := h K hK
    rw [ho] at this
    exact this
/-- The world under a name. -/
theorem wpAnyH_gen {fuel : Nat} {listed : Array Bool} {a : Act} {w : World} (h : ∀ Wc, Wc = w → wpAnyH P md ops Q S fuel listed a Wc) : wpAnyH P md ops Q S fuel listed a w := h w rfl
/-- What is asked where operation i comes up. -/
def Comes1 (P : Program) (ops : Array Oper) (Q : Exit → Act → World → Prop) (md : Region.Mode) (S : World → Prop) (fuel : Nat) (listed : Array Bool) (a : Act) (w : World) (i : Nat) : Prop :=
  (ops[i]?).map (fun o => Region.wanted o (yielded ops a.tmps)) = some true ∧
    ∀ K : Act → World → Prop, Shut (∀ a w, S w → (S w → wpAnyH P md ops Q S fuel (listed.setIfInBounds i true) a w) → K a w) → match ops[i]? with | some o => Oper.wp P o a w K Q | none => True
def ComesAll (P : Program) (ops : Array Oper) (Q : Exit → Act → World → Prop) (md : Region.Mode) (S : World → Prop) (fuel : Nat) (listed : Array Bool) (a : Act) (w : World) : List Nat → Prop
  | [] => True
  | i :: rs => Comes1 P ops Q md S fuel listed a w i ∧ ComesAll P ops Q md S fuel listed a w rs
/-- Several may come up. -/
theorem held_many {rs : List Nat} {fuel : Nat} {listed : Array Bool} {a : Act} {w : World} (hr : Region.ready md ops listed = rs) (hne : rs ≠ []) (h : ComesAll P ops Q md S fuel listed a w rs) : wpAnyH P md ops Q S (fuel + 1) listed a w := by
  refine wpAnyH_ready hr hne ?_
  clear hr hne
  induction rs with
  | nil => exact AllReadyH.nil
  | cons i rs ih =>
    obtain ⟨⟨hw, h1⟩, h2⟩ := h
    cases ho : ops[i]? with
    | none => rw [ho] at hw; cases hw
    | some o =>
      refine AllReadyH.cons ho (fun K hK => ?_) (ih h2)
      rw [ho] at hw
      simp only [Option.map_some, Option.some.injEq] at hw
      rw [if_pos hw]
      have := h1 K hK
      rw [ho] at this
      exact this
end
end Go.Proofs.Ytndmndchbfmppaa
