/-
  Layer 9 (block): a disk's state, and what each call makes of it, plain. No program is named.
-/
import Derived.Test.YtndmndchbfmppaaBase
namespace Go.Proofs.Ytndmndchbfmppaa
set_option linter.unusedVariables false
set_option linter.unusedSimpArgs false
/-- A disk: how many sectors; what lasts; what waits; is the power gone; the order; how many calls counted. -/
structure DSt where
  n : Nat
  is : Nat → List UInt8
  wt : Nat → List (List UInt8)
  gone : Bool
  left : Nat
  keep : Nat
  calls : Nat
def newD (n : Int) : DSt := ⟨(max 8 (min n 512)).toNat, fun _ => [], fun _ => [], false, 0, 0, 0⟩
/-- How many sectors ahead of i have something that waits. -/
def rank (wt : Nat → List (List UInt8)) : Nat → Nat
  | 0 => 0
  | i + 1 => rank wt i + (if wt i = [] then 0 else 1)
def pickN (keep j m : Nat) : Nat := keep / 2 ^ (2 * (j % 32)) % 4 % (m + 1)
def keptD (keep j : Nat) (s : List UInt8) (l : List (List UInt8)) : List UInt8 := if pickN keep j l.length = 0 then s else l.getD (pickN keep j l.length - 1) []
def fallen (keep : Nat) (is : Nat → List UInt8) (wt : Nat → List (List UInt8)) (i : Nat) : List UInt8 := if wt i = [] then is i else keptD keep (rank wt i) (is i) (wt i)
def downD (S : DSt) (keep : Nat) : DSt := if S.gone = true then S else { S with is := fallen keep S.is S.wt, wt := fun _ => [], gone := true, left := 0 }
/-- One call more; did the power go with it? -/
def countD (S : DSt) : Bool × DSt :=
  if S.left = 0 then (false, { S with calls := S.calls + 1 })
  else if S.left = 1 then (true, downD { S with calls := S.calls + 1, left := 0 } S.keep)
  else (false, { S with calls := S.calls + 1, left := S.left - 1 })
def updW (wt : Nat → List (List UInt8)) (i : Nat) (l : List (List UInt8)) : Nat → List (List UInt8) := fun j => if j = i then l else wt j
def putD (S : DSt) (i : Nat) (s : List UInt8) : DSt := { S with wt := updW S.wt i (S.wt i ++ [s]) }
def writeD (S : DSt) (i : Int) (s : List UInt8) : Int × DSt :=
  if S.gone = true then (90, S)
  else if i < 0 ∨ (S.n : Int) ≤ i ∨ 64 < s.length then (91, S)
  else if (countD (putD S i.toNat s)).1 = true then (90, (countD (putD S i.toNat s)).2) else (0, (countD (putD S i.toNat s)).2)
def settleD (S : DSt) : DSt := { S with is := fun i => (S.wt i).getLastD (S.is i), wt := fun _ => [] }
def flushD (S : DSt) : Int × DSt :=
  if S.gone = true then (90, S)
  else if (countD S).1 = true then (90, (countD S).2) else (0, settleD (countD S).2)
def readD (S : DSt) (i : Int) : List UInt8 × Int :=
  if S.gone = true then ([], 90)
  else if i < 0 ∨ (S.n : Int) ≤ i then ([], 91)
  else ((S.wt i.toNat).getLastD (S.is i.toNat), 0)
def cutD (S : DSt) (n : Int) (keep : Nat) : DSt := { S with left := n.toNat, keep := keep }
def powerD (S : DSt) : DSt := { S with gone := false, left := 0 }
theorem rank_le (wt : Nat → List (List UInt8)) (i : Nat) : rank wt i ≤ i := by
  induction i with
  | zero => exact Nat.le_refl _
  | succ i ih => unfold rank; split <;> omega
theorem pickN_le (keep j m : Nat) : pickN keep j m ≤ m := by
  have := Nat.mod_lt (keep / 2 ^ (2 * (j % 32)) % 4) (show 0 < m + 1 by omega)
  unfold pickN; omega
end Go.Proofs.Ytndmndchbfmppaa
