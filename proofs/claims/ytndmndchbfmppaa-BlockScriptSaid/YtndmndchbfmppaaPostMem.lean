/-
  Layer 6 (post): a slice of integers in memory; the functions that only read one.
-/
import Derived.Test.YtndmndchbfmppaaPostPure
import Derived.Test.YtndmndchbfmppaaMem
import Derived.Test.YtndmndchbfmppaaProg
import Derived.Test.YtndmndchbfmppaaShelf
import Derived.Deep.Fields
import Derived.Deep.Slices
import Derived.Deep.RegionHeld3
import Derived.Deep.OwnRows
import Derived.Outline
import Derived.BigQuiet
import Derived.Deep.QuietTactic
import Derived.Deep.RegionWith
import Derived.OpenShut
import Derived.Deep.Onto
import Derived.Lib.Hide
import Derived.IntWalk
import Derived.BigRegion
import Derived.Deep.AppendLies
import Derived.RegionTactic
namespace Go.Proofs.Ytndmndchbfmppaa
open Go.RowKit Go.Deep
set_option linter.unusedVariables false
set_option linter.unusedSimpArgs false

/-- A slice of integers that was there. -/
def IAt (w : World) (A : Option Addr) (len cap : Nat) (l : List Int) : Prop :=
  len = l.length ∧ len ≤ cap ∧ ∀ i (h : i < l.length), (-9223372036854775808 ≤ l[i] ∧ l[i] ≤ 9223372036854775807) ∧
    ∃ ad, A = some ad ∧ (ad.add i).block < w.heap.size ∧ w.cell? (ad.add i) = some (.int .i64 l[i])
theorem IAt.below {w w' : World} {A : Option Addr} {len cap : Nat} {l : List Int} (h : IAt w A len cap l) (hb : Below w.heap.size w w') : IAt w' A len cap l :=
  ⟨h.1, h.2.1, fun i hi => by
    obtain ⟨h1, ad, rfl, h2, h3⟩ := h.2.2 i hi
    exact ⟨h1, ad, rfl, Nat.lt_of_lt_of_le h2 hb.size, (hb.cell (p := ad.add i) h2).trans h3⟩⟩
theorem IAt.nil (w : World) (A : Option Addr) (cap : Nat) : IAt w A 0 cap [] := ⟨rfl, Nat.zero_le _, fun i h => by simp at h⟩
theorem IAt.drewN {w : World} {A : Option Addr} {len cap : Nat} {l : List Int} (h : IAt w A len cap l) (n : Nat) : IAt (w.drewN n) A len cap l := h
theorem add_succ (a : Addr) (i : Nat) : a.add (i + 1) = ⟨a.block, a.off + (i + 1), none⟩ := rfl
/-- What is left of it behind its first one. -/
theorem IAt.tail {w : World} {ad : Addr} {n cap : Nat} {x : Int} {l : List Int} (h : IAt w (some ad) (n + 1) (cap + 1) (x :: l)) : IAt w (some (ad.add 1)) n cap l := by
  refine ⟨by have := h.1; simp at this; omega, by have := h.2.1; omega, fun i hi => ?_⟩
  obtain ⟨h1, ad', e, h2, h3⟩ := h.2.2 (i + 1) (by simp; omega)
  injection e with e
  subst e
  have ea : (ad.add 1).add i = ad.add (i + 1) := by
    cases i with
    | zero => rfl
    | succ i => simp [Addr.add]; omega
  refine ⟨by simpa using h1, _, rfl, ?_, ?_⟩
  · rw [ea]; exact h2
  · rw [ea]; simpa using h3
/-! a row of the call's own -/
def intC (l : List Int) : List Value := l.map (.int .i64)
theorem intC_append (l m : List Int) : intC (l ++ m) = intC l ++ intC m := by simp [intC]
structure NewI (B : Nat) (v : Value) (l : List Int) (w : World) : Prop where
  own : w.ownsRow B 3 1 v l.length (intC l)
  rng : ∀ x ∈ l, -9223372036854775808 ≤ x ∧ x ≤ 9223372036854775807
theorem NewI.alloc {B : Nat} {v : Value} {l : List Int} {w : World} (h : NewI B v l w) (o : Obj) : NewI B v l (w.alloc o) := ⟨h.own.alloc o, h.rng⟩
theorem NewI.keeps {B : Nat} {v : Value} {l : List Int} {F : List Nat} {w w' : World} (h : NewI B v l w) (hk : Keeps F w w') (hF : ∀ k, v.ownBlock = some k → k ∉ F) : NewI B v l w' := ⟨hk.row h.own hF, h.rng⟩
theorem NewI.below {B : Nat} {v : Value} {l : List Int} {w w' : World} (h : NewI B v l w) (hb : Below w.heap.size w w') : NewI B v l w' := h.keeps (F := []) (Keeps.below hb) (by simp)
theorem NewI.mono {B B' : Nat} {v : Value} {l : List Int} {w : World} (h : NewI B v l w) (hb : B' ≤ B) : NewI B' v l w := ⟨h.own.mono hb, h.rng⟩
theorem NewI.drewN {B : Nat} {v : Value} {l : List Int} {w : World} (h : NewI B v l w) (n : Nat) : NewI B v l (w.drewN n) := ⟨h.own, h.rng⟩
theorem NewI.nil (B : Nat) (w : World) : NewI B (.slice none 0 0) [] w := ⟨⟨rfl, .inl ⟨rfl, rfl⟩⟩, by simp⟩
/-- Its shape, and what it is to others. -/
theorem NewI.at {B : Nat} {v : Value} {l : List Int} {w : World} (h : NewI B v l w) : ∃ A cap, v = .slice A l.length cap ∧ IAt w A l.length cap l := by
  rcases h.own.2 with ⟨e, h0⟩ | ⟨g, c, cur, e, hg, hb, hc, _⟩
  · have : l = [] := List.length_eq_zero_iff.1 h0
    subst this
    exact ⟨none, 0, e, IAt.nil _ _ _⟩
  · refine ⟨_, _, e, rfl, hc, fun i hi => ⟨h.rng _ (List.getElem_mem hi), _, rfl, ?_, ?_⟩⟩
    · show ((⟨g, 0, none⟩ : Addr).add i).block < _
      have : ((⟨g, 0, none⟩ : Addr).add i).block = g := by unfold Addr.add; split <;> rfl
      rw [this]; exact lt_of_block hb
    · subst e
      have := h.own.cells (g := g) rfl i (.int .i64 l[i]) (by simp [intC, hi])
      exact this
theorem int_info : (Try.prog.info? 3).map (fun i => (i.zero, i.size, i.bytes)) = some (some (.int .i64 0), 1, 8) := by kernel_rfl
theorem IAt.congr {w : World} {A : Option Addr} {len cap : Nat} {l m : List Int} (h : IAt w A len cap l) (e : l = m) : IAt w A len cap m := e ▸ h
end Go.Proofs.Ytndmndchbfmppaa
