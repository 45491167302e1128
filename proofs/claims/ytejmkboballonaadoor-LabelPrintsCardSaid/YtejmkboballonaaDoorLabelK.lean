/-
  A text that is built piece by piece (strings.Builder): what its writer and its reader do at a builder of the call's own.
-/
import Derived.Test.YtejmkboballonaaDoorLabelQ
import Derived.Lib.Builder
import Derived.Lib.AppendStr
import Derived.Lib.UnsafeStr
import Derived.Laws.Externs
namespace Go.Proofs.YtejmkboballonaaDoor
open Go.RowKit Go.Deep
attribute [local go_sem] str_size str_append str_toList str_get str_extract
set_option linter.unusedVariables false
set_option linter.unusedSimpArgs false
theorem bd_info : ∃ j, Tryd.prog.info? 44 = some j ∧ j.size ≠ 0 := by
  have h : (Tryd.prog.info? 44).map (fun j => decide (j.size ≠ 0)) = some true := by kernel_rfl
  cases hj : Tryd.prog.info? 44 with
  | none => rw [hj] at h; cases h
  | some j => rw [hj] at h; exact ⟨j, rfl, by simpa using h⟩
/-- Block b is a builder that holds the bytes l; its row lies from block B on. -/
def Bd (B b : Nat) (l : List UInt8) (w : World) : Prop :=
  B ≤ b ∧ ∃ p v, (p = .pointer none ∨ p = .pointer (some ⟨b, 0, none⟩)) ∧ w.heap[b]? = some (.cells #[p, v] 44 (0, 0)) ∧ w.ownsRow B 5 1 v l.length (l.map fun c => .int .u8 (c.toNat : Int)) ∧ v.ownBlock ≠ some b
theorem Bd.fresh (w : World) : Bd w.heap.size w.heap.size [] (w.alloc (.cells #[.pointer none, .slice none 0 0] 44)) :=
  ⟨Nat.le_refl _, _, _, .inl rfl, blk_new _ _, ⟨rfl, .inl ⟨rfl, rfl⟩⟩, by simp [Value.ownBlock]⟩
theorem strCells_str (s : List UInt8) : Lib.strCells (str s) = s.map fun c => .int .u8 (c.toNat : Int) := by unfold Lib.strCells; rw [str_data]
theorem copyCheck_c (b : Nat) (p v : Value) (w : World) (hp : p = .pointer none ∨ p = .pointer (some ⟨b, 0, none⟩)) (hb : w.heap[b]? = some (.cells #[p, v] 44 (0, 0))) :
    Calls Tryd.prog 40 #[.pointer (some ⟨b, 0, none⟩)] w fun e w' => e = .returned (.tuple #[]) ∧ (w' = w ∨ w' = w.setCell ⟨b, 0, none⟩ (.pointer (some ⟨b, 0, none⟩))) ∧ w'.heap[b]? = some (.cells #[.pointer (some ⟨b, 0, none⟩), v] 44 (0, 0)) := by
  obtain ⟨j, hj, hjs⟩ := bd_info
  have h0 := blk_cell hb 0
  have hf := blk_free hb 0
  simp only [List.getElem?_toArray, List.getElem?_cons_zero] at h0
  rcases hp with rfl | rfl
  · have hsh : w.shape? b = some (44, 2) := by simp [World.shape?, hb]
    have hu := Lib.run_to_unsafe (P := Tryd.prog) (dst := 65) w ⟨b, 0, none⟩ Tryd.underlying42 Tryd.underlying65 hj hjs hsh (Nat.zero_lt_succ 1)
    have hn := fun (W : World) (x : Value) => run_callFunc_extern (P := Tryd.prog) (w := W) (args := #[x]) Tryd.func50 (by kernel_rfl) (by kernel_rfl) (by kernel_rfl) (e := Extern.AbiNoEscape.same) (by kernel_rfl)
    simp only [Lib.run_noEscape] at hn
    have hv := Lib.run_from_unsafe (P := Tryd.prog) w ⟨b, 0, none⟩ Tryd.underlying65 Tryd.underlying42 hj hsh (by kernel_rfl)
    go_enter Tryd.func40, Tryd.ntmps40
    go_wp2_with fail
    go_end0
    refine ⟨rfl, .inr rfl, ?_⟩
    have h := blk_set hb 0 (.pointer (some ⟨b, 0, none⟩))
    simpa using h
  · have hq := Lib.run_neq_ptr_same (P := Tryd.prog) w ⟨b, 0, none⟩ Tryd.underlying42 hj
    go_enter Tryd.func40, Tryd.ntmps40
    go_wp2_with fail
    go_end0
    exact ⟨rfl, .inl rfl, hb⟩
theorem writeString_c (B b : Nat) (l s : List UInt8) (w : World) (h : Bd B b l w) (hB : B ≤ w.heap.size) (hlen : l.length + s.length ≤ 4294967296) :
    Calls Tryd.prog 30 #[.pointer (some ⟨b, 0, none⟩), .string (str s)] w fun e w' => e = .returned (.tuple #[.int .i64 s.length, .nilIface]) ∧ Bd B b (l ++ s) w' ∧ Below B w w' ∧ ∀ (k : Nat) (cs : Array Value) (T : TypeId), T ≠ 44 → T ≠ 5 → w.heap[k]? = some (Obj.cells cs T (0, 0)) → w'.heap[k]? = some (Obj.cells cs T (0, 0)) := by
  obtain ⟨i0, hi0, hz0, hz1, hz2⟩ := info_parts byte_info
  obtain ⟨hBb, p, v, hp, hb, hown, hne⟩ := h
  have HP := Lib.hid hp
  have c1 := copyCheck_c b p v w hp hb
  have hbl := lt_of_block hb
  have hlow := ownLow hown
  clear hp
  go_enter Tryd.func30, Tryd.ntmps30
  go_wp2_with (go_at_call 40; refine c1.mono ?_)
  rintro e w1 ⟨rfl, hw1, hb1⟩
  have hbel : Below B w w1 := by
    rcases hw1 with rfl | rfl
    · exact Below.refl _ _
    · exact (Below.refl _ w).setCell (p := ⟨b, 0, none⟩) hBb _
  have hown1 : w1.ownsRow B 5 1 v l.length (l.map fun c => .int .u8 (c.toNat : Int)) := by
    rcases hw1 with rfl | rfl
    · exact hown
    · exact row_set (p := ⟨b, 0, none⟩) hown hne _
  have d0 := blk_cell hb1 0
  have d1 := blk_cell hb1 1
  simp only [List.getElem?_toArray, List.getElem?_cons_zero, List.getElem?_cons_succ] at d0 d1
  have HO := Lib.hid hown1
  have hkeep1 : ∀ (k : Nat) (cs : Array Value) (T : TypeId), T ≠ 44 → T ≠ 5 → w.heap[k]? = some (Obj.cells cs T (0, 0)) → w1.heap[k]? = some (.cells cs T (0, 0)) := by
    intro k cs T h1 h2 hk
    have hkb : k ≠ b := blk_apart hk hb h1
    rcases hw1 with rfl | rfl
    · exact hk
    · exact blk_far hk (p := ⟨b, 0, none⟩) hkb _
  have HK1 := Lib.hid hkeep1
  have hsz := hbel.size
  clear hw1 c1 hown hown1 hkeep1
  go_wp2_with (at_builtin; refine Lib.wpList_append_own_string _ rfl (.tmp 12) (.tmp 13) 39 9 rfl B 5 i0 Tryd.underlying39 Tryd.underlying9 hi0 hz0 hz1 hz2 v l.length _ rfl HO.out (str s) rfl ?c3 ?c4 ?c5 ?c6)
  case c3 => rw [str_size]; unfold maxLen; omega
  case c4 => rw [str_size]; omega
  case c5 => omega
  case c6 =>
    intro v' w2 hown2 hg2 _
    rw [strCells_str, ← List.map_append] at hown2
    have hb2 : w2.heap[b]? = some (.cells #[.pointer (some ⟨b, 0, none⟩), v] 44 (0, 0)) := (hg2.block b (lt_of_block hb1) (fun e => hne e.symm)).trans hb1
    have f0 := blk_cell hb2 0
    have f1 := blk_cell hb2 1
    have f2 := blk_free hb2 1
    simp only [List.getElem?_toArray, List.getElem?_cons_zero, List.getElem?_cons_succ] at f0 f1
    obtain ⟨ao, n', cap, rfl⟩ : ∃ ao n' cap, v' = .slice ao n' cap := by
      rcases hown2.2 with ⟨e, _⟩ | ⟨g, cap, cur, e, _⟩
      · exact ⟨_, _, _, e⟩
      · exact ⟨_, _, _, e⟩
    go_wp2_with fail
    go_ret2
    have hb3 := blk_set hb2 1 (.slice ao n' cap)
    have hne3 : (Value.slice ao n' cap).ownBlock ≠ some b := fun e => row_apart hown2 hb2 (by decide) b e rfl
    refine ⟨rfl, ⟨hBb, _, _, .inr rfl, by simpa using hb3, ?_, hne3⟩, ?_, ?_⟩
    · have h := row_set (p := ⟨b, 1, none⟩) hown2 hne3 (.slice ao n' cap)
      rw [List.length_append]
      exact h
    · exact (hbel.grown hg2 (by omega) hlow).setCell (p := ⟨b, 1, none⟩) hBb _
    · intro k cs T h1 h2 hk
      have hk1 := HK1.out k cs T h1 h2 hk
      have hkb : k ≠ b := blk_apart hk1 hb1 h1
      have hkv : v.ownBlock ≠ some k := fun e => row_apart HO.out hk1 (Ne.symm h2) k e rfl
      exact blk_far ((hg2.block k (lt_of_block hk1) (fun e => hkv e.symm)).trans hk1) (p := ⟨b, 1, none⟩) hkb _
/-- What it has become. -/
theorem string_c (B b : Nat) (l : List UInt8) (w : World) (h : Bd B b l w) (hB : B ≤ w.heap.size) :
    Calls Tryd.prog 32 #[.pointer (some ⟨b, 0, none⟩)] w fun e w' => e = .returned (.string (str l)) ∧ Below B w w' := by
  obtain ⟨hBb, p, v, hp, hb, hown, hne⟩ := h
  have e : Lib.byteCells l = l.map fun c => .int .u8 (c.toNat : Int) := rfl
  have hI : Lib.IsBuilder 44 5 B b (Lib.byteCells l) w := by
    rcases hp with rfl | rfl
    · exact .inl ⟨hBb, v, hb, by rw [e, List.length_map]; exact hown, hne⟩
    · exact .inr ⟨hBb, v, hb, by rw [e, List.length_map]; exact hown, hne⟩
  exact Tryd.Builder_String_any B b l w hI hB
/-- A builder stays one while what lies elsewhere changes. -/
theorem Bd.keeps {B b : Nat} {l : List UInt8} {w w' : World} (h : Bd B b l w) (hb : Below w.heap.size w w') : Bd B b l w' := by
  obtain ⟨hBb, p, v, hp, hk, hown, hne⟩ := h
  exact ⟨hBb, p, v, hp, (hb.block b (lt_of_block hk)).trans hk, (Keeps.below (F := []) hb).row hown (by simp), hne⟩
end Go.Proofs.YtejmkboballonaaDoor
