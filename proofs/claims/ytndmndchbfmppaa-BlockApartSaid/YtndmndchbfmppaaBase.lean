/-
  Plain lemmas that name no program: strings as lists of bytes, small facts on numbers.
-/
import Derived.WalkKit
import Derived.WalkSpells
import Derived.WalkLawsBesides
import Derived.Lib.Strings
import Derived.Laws.IdiomStrings
import Derived.Laws.BytesArg
import Derived.Deep.OwnRows
namespace Go.Proofs.Ytndmndchbfmppaa
open Go.RowKit Go.Deep

/-- A Go string, by its list of bytes. -/
def str (l : List UInt8) : ByteArray := ⟨l.toArray⟩
theorem str_size (l : List UInt8) : (str l).size = l.length := by simp [str, ByteArray.size]
theorem str_append (a b : List UInt8) : str a ++ str b = str (a ++ b) := by
  unfold str; exact ByteArray.mk_append_mk a b
theorem str_toList (l : List UInt8) : (str l).toList = l := ByteArray.toList_mk l
theorem str_data (l : List UInt8) : (str l).data.toList = l := by simp [str]
theorem str_of (s : ByteArray) : ∃ l, s = str l := ⟨s.data.toList, by simp [str]⟩
theorem str_extract (l : List UInt8) (a b : Nat) : (str l).extract a b = str ((l.drop a).take (b - a)) := by
  unfold str; exact ByteArray.extract_mk l a b
theorem str_nil : (⟨#[]⟩ : ByteArray) = str [] := rfl
theorem str_inj {a b : List UInt8} (h : str a = str b) : a = b := by
  rw [← str_data a, h, str_data]
theorem str_getElem (l : List UInt8) (i : Nat) (h : i < l.length) : (str l)[i]? = some (l[i]) := by
  unfold str
  rw [ByteArray.getElem?_lt' _ _ (by simpa [ByteArray.size] using h)]
  rfl
theorem str_get (l : List UInt8) (i : Nat) (h : i < (str l).size) : (str l)[i]'h = l[i]'(by simpa [str_size] using h) := rfl
theorem ret_int {k : IntKind} {a b : Int} (h : a = b) : Ending.returned (.int k a) = .returned (.int k b) := by rw [h]
theorem ret_str {a b : List UInt8} (h : a = b) : Ending.returned (.string (str a)) = .returned (.string (str b)) := by rw [h]
theorem ret_bool {a b : Bool} (h : a = b) : Ending.returned (.bool a) = .returned (.bool b) := by rw [h]
theorem below_drewN {B : Nat} {a w : World} (h : Below B a w) (n : Nat) : Below B a (w.drewN n) := ⟨h.os, h.tape, h.output, h.size, h.block⟩
theorem below_of_drew {B : Nat} {a w : World} (h : Below B a.drew w) : Below B a w := ⟨h.os, h.tape, h.output, h.size, h.block⟩
/-- Two steps, each below its own start. -/
theorem below2 {B : Nat} {a b c : World} (h : Below B a b) (k : Below b.heap.size b c) (hB : B ≤ b.heap.size) : Below B a c := h.trans (k.mono hB)

/-- 'string(b)' where b's cells are known. -/
theorem conv_cells {P : Program} (W : World) (src dst e : TypeId) (a : Addr) (cap : Nat) (ns : List Int) (hs : P.underlying src = some (.slice e)) (he : P.underlying e = some (.int .u8)) (hd : P.underlying dst = some .string)
    (hc : ∀ j v, (ns.map (Value.int .u8))[j]? = some v → W.cell? (a.add j) = some v) :
    (convert src dst (.slice (some a) ns.length cap)).run P W = .ok (.string (str (ns.map fun n => UInt8.ofNat n.toNat))) W := by
  have hl := run_loadCells_list (P := P) W a (ns.map (Value.int .u8)) hc
  rw [List.length_map] at hl
  rw [run_convert_bytes_string W src dst e (some a) ns.length cap hs he hd, run_bytesToString W a ns.length cap ns hl, foldl_push_bytes]
  simp [str, ByteArray.empty, ByteArray.emptyWithCapacity]
  rfl
/-- 'string([]byte{b})'. -/
theorem conv_one {P : Program} (src dst e : TypeId) (hs : P.underlying src = some (.slice e)) (he : P.underlying e = some (.int .u8)) (hd : P.underlying dst = some .string) (W : World) (b : Int) :
    (convert src dst (.slice (some ⟨W.heap.size, 0, none⟩) 1 1)).run P (W.alloc (.cells #[.int .u8 b] e)) = .ok (.string (str [UInt8.ofNat b.toNat])) (W.alloc (.cells #[.int .u8 b] e)) := by
  refine conv_cells (W.alloc (.cells #[.int .u8 b] e)) src dst e ⟨W.heap.size, 0, none⟩ 1 [b] hs he hd ?_
  intro j v hv
  cases j with
  | zero => simp at hv; subst hv; simp [Addr.add, World.cell?_alloc_mark]
  | succ j => simp at hv

/-- 'string([]byte{a, b})'. -/
theorem conv_two {P : Program} (src dst e : TypeId) (hs : P.underlying src = some (.slice e)) (he : P.underlying e = some (.int .u8)) (hd : P.underlying dst = some .string) (W : World) (a b : Int) :
    (convert src dst (.slice (some ⟨W.heap.size, 0, none⟩) 2 2)).run P (W.alloc (.cells #[.int .u8 a, .int .u8 b] e)) = .ok (.string (str [UInt8.ofNat a.toNat, UInt8.ofNat b.toNat])) (W.alloc (.cells #[.int .u8 a, .int .u8 b] e)) := by
  refine conv_cells (W.alloc (.cells #[.int .u8 a, .int .u8 b] e)) src dst e ⟨W.heap.size, 0, none⟩ 2 [a, b] hs he hd ?_
  intro j v hv
  match j, hv with
  | 0, hv => simp at hv; subst hv; simp [Addr.add, World.cell?_alloc_mark]
  | 1, hv => simp at hv; subst hv; simp [Addr.add, World.cell?_alloc_mark]
  | j + 2, hv => simp at hv

/-- 'string(b)' of a whole row of the call's own that holds the bytes l. -/
theorem conv_row {P : Program} (W : World) (src dst e : TypeId) (hs : P.underlying src = some (.slice e)) (he : P.underlying e = some (.int .u8)) (hd : P.underlying dst = some .string)
    (b : Nat) (l : List UInt8) (n cap : Nat) (f : Nat → Value) (hr : W.rowIs b e n f) (hn : l.length ≤ n) (hf : ∀ j (h : j < l.length), f j = .int .u8 (l[j].toNat : Int)) :
    (convert src dst (.slice (some ⟨b, 0, none⟩) l.length cap)).run P W = .ok (.string (str l)) W :=
  run_convert_bytes_back W src dst e ⟨b, 0, none⟩ cap l hs he hd (fun j hj => by
    have h := hr.cell (i := j) (by omega)
    rw [hf j hj] at h
    have e : (⟨b, 0, none⟩ : Addr).add j = ⟨b, j, none⟩ := by unfold Addr.add; split <;> simp_all
    rw [e]; exact h)

/-! bits of 64-bit words and of bytes, as sums -/
theorem u8_or128 (x : Nat) (h : x < 256) : (x ||| 128) = x % 128 + 128 :=
  (by decide +kernel : ∀ x : Fin 256, (x.val ||| 128) = x.val % 128 + 128) ⟨x, h⟩
theorem u8_and128 (x : Nat) (h : x < 256) : (x &&& 128) = if x < 128 then 0 else 128 :=
  (by decide +kernel : ∀ x : Fin 256, (x.val &&& 128) = if x.val < 128 then 0 else 128) ⟨x, h⟩
theorem u8_and127 (x : Nat) : (x &&& 127) = x % 128 := nat_mask7 x
end Go.Proofs.Ytndmndchbfmppaa
