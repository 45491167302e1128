/-
  Layer 8 (frame): exclusive or of small integers. Plain; it names no program.
-/
import Derived.Test.YtfhcjlmolneooaaDoorBase
namespace Go.Proofs.YtfhcjlmolneooaaDoor
open Go.RowKit
theorem ofInt_small (a : Nat) (ha : a < 65536) : (BitVec.ofInt 64 (a : Int)).toNat = a := by
  rw [BitVec.toNat_ofInt]; omega
theorem i64_xor_small (a b : Nat) (ha : a < 65536) (hb : b < 65536) : bits .xor .i64 (a : Int) (b : Int) = ((a ^^^ b : Nat) : Int) := by
  have hx : a ^^^ b < 2 ^ 16 := Nat.xor_lt_two_pow (by omega) (by omega)
  show IntKind.i64.wrap ((BitVec.ofInt 64 (a : Int) ^^^ BitVec.ofInt 64 (b : Int)).toNat : Int) = _
  rw [BitVec.toNat_xor, ofInt_small a ha, ofInt_small b hb, IntKind.wrap_i64]
  omega
end Go.Proofs.YtfhcjlmolneooaaDoor
