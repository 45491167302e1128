/-
  Layer 4 (label): quoting: what the program's Quote, and the document's own Quote and Quoted, return; all that was in memory stays.
-/
import Derived.Test.YtopnnhjfcfhihaaRows
import Derived.Test.YtopnnhjfcfhihaaLabelPure
import Derived.Test.YtopnnhjfcfhihaaMem
import Derived.Test.YtopnnhjfcfhihaaShelf
import Derived.Outline
import Derived.BigQuiet
import Derived.BigRegion
import Derived.RegionTactic
import Derived.Deep.QuietTactic
import Derived.Deep.RegionWith
import Derived.Deep.AppendLies
import Derived.IntWalk
namespace Go.Proofs.Ytopnnhjfcfhihaa
open Go.RowKit Go.Deep
attribute [local go_sem] str_size str_append str_toList str_get str_extract
set_option linter.unusedVariables false
set_option linter.unusedSimpArgs false

theorem byte_info : (Try.prog.info? 5).map (fun i => (i.zero, i.size, i.bytes)) = some (some (.int .u8 0), 1, 1) := by kernel_rfl
/-- 'string(b)' of a row of the call's own. -/
theorem conv_mine {P : Program} (W : World) (src dst e : TypeId) (hs : P.underlying src = some (.slice e)) (he : P.underlying e = some (.int .u8)) (hd : P.underlying dst = some .string)
    (B : Nat) (l : List UInt8) (A : Option Addr) (n cap : Nat) (hn : n = l.length) (hr : W.ownsRow B e 1 (.slice A n cap) n (l.map fun b => .int .u8 (b.toNat : Int))) :
    (convert src dst (.slice A n cap)).run P W = .ok (.string (str l)) W := by
  subst hn
  rcases hr.2 with ⟨h, h0⟩ | ⟨g, c, cur, h, _⟩
  · injection h with h1 h2 h3
    subst h1 h3
    have hl : l = [] := List.eq_nil_of_length_eq_zero h0
    subst hl
    rw [run_convert_bytes_string W src dst e none _ _ hs he hd]
    simp [Conv.bytesToString]
    rfl
  · injection h with h1 h2 h3
    subst h1 h3
    refine run_convert_bytes_back W src dst e ⟨g, 0, none⟩ cap l hs he hd (fun j hj => ?_)
    exact hr.cells (g := g) rfl j _ (by simp [hj])
/-- A row of bytes of the call's own, from block B on. -/
def HasY (B : Nat) (v : Value) (l : List UInt8) (w : World) : Prop := ∃ g cap, v = .slice (some ⟨g, 0, none⟩) l.length cap ∧ w.ownsRow B 5 1 v l.length (l.map fun b => .int .u8 (b.toNat : Int))
theorem HasY.of {B g cap n : Nat} {l : List UInt8} {xs : List Value} {w : World} (h : w.ownsRow B 5 1 (.slice (some ⟨g, 0, none⟩) n cap) n xs) (hn : n = l.length) (hx : xs = l.map fun b => .int .u8 (b.toNat : Int)) : HasY B (.slice (some ⟨g, 0, none⟩) n cap) l w := by
  subst hn hx; exact ⟨g, cap, rfl, h⟩
/-- A row of bytes that the call has just made. -/
theorem own_new (w : World) (e : TypeId) (cs : Array Value) (n : Nat) (h : cs.size = n) (hm : n ≤ maxLen) : (w.alloc (.cells cs e)).ownsRow w.heap.size e 1 (.slice (some ⟨w.heap.size, 0, none⟩) n n) n cs.toList :=
  ⟨by simp [h], .inr ⟨_, _, cs, rfl, Nat.le_refl _, heap_alloc_new _ _, Nat.le_refl _, hm, by omega, by rw [← h, Nat.mul_one]; exact List.take_length⟩⟩
theorem ownLow {w : World} {base : Nat} {e : TypeId} {size : Nat} {v : Value} {n : Nat} {xs : List Value} (h : w.ownsRow base e size v n xs) : ∀ k, v.ownBlock = some k → base ≤ k := by
  intro k hk
  rcases h.2 with ⟨rfl, _⟩ | ⟨g, c, cur, rfl, hg, _⟩
  · simp [Value.ownBlock] at hk
  · simp [Value.ownBlock] at hk; omega
theorem cells_two_new (w : World) (x y : Value) (t : TypeId) : ∀ j u, [x, y][j]? = some u → (w.alloc (.cells #[x, y] t)).cell? ((⟨w.heap.size, 0, none⟩ : Addr).add j) = some u := by
  intro j u hj
  match j, hj with
  | 0, hj => simp at hj; subst hj; simp [Addr.add, World.cell?_alloc_mark]
  | 1, hj => simp at hj; subst hj; simp [Addr.add, World.cell?_alloc_mark]
  | j + 2, hj => simp at hj
theorem quoteC_of {c : UInt8} {l : List UInt8} (h : l = quoteC c) : quoteC c = l := h.symm
end Go.Proofs.Ytopnnhjfcfhihaa
