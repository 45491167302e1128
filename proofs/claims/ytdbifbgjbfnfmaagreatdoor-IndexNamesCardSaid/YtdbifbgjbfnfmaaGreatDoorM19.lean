/-
  Texts of the same seat, one behind the other (merged; each says at its head what it is).
-/
import Derived.Test.YtdbifbgjbfnfmaaGreatDoorM18
import Derived.Test.YtdbifbgjbfnfmaaGreatDoorM01
import Derived.ProofKit
import Derived.OpenShut
import Derived.Deep.Slices
import Derived.Deep.Fields
import Derived.ChangeSame
import Derived.Test.YtdbifbgjbfnfmaaGreatDoorM06
import Derived.Test.YtdbifbgjbfnfmaaGreatDoorRows
import Derived.Lib.LaidU8T
import Derived.Lib.LaidTab
import Derived.Deep.DeepHandedRow
/-
  Layer 7 (index): matchers behind matchers.
-/
namespace Go.Proofs.YtdbifbgjbfnfmaaGreatDoor
open Go.RowKit Go.Deep
attribute [local go_sem] str_size str_append str_toList str_get str_extract
set_option linter.unusedVariables false
set_option linter.unusedSimpArgs false
theorem mat_info7 : (Tryz.prog.info? 57).map (fun i => (i.zero, i.size, i.bytes)) = some (some (.agg #[.int .i64 0, .string (str []), .string (str []), .slice none 0 0]), 4, 64) := by kernel_rfl
/-- A matcher with where its set lies. -/
abbrev MatW := Mat × Option Addr × Nat
def mwC : List MatW → List Value
  | [] => []
  | x :: r => .int .i64 x.1.1 :: .string (str x.1.2.1) :: .string (str x.1.2.2.1) :: .slice x.2.1 x.1.2.2.2.length x.2.2 :: mwC r
theorem mwC_append (l m : List MatW) : mwC (l ++ m) = mwC l ++ mwC m := by
  induction l with
  | nil => rfl
  | cons x r ih => simp [mwC, ih]
theorem mwC_length (l : List MatW) : (mwC l).length = 4 * l.length := by
  induction l with
  | nil => rfl
  | cons x r ih => simp [mwC, ih]; omega
theorem mwC_get (l : List MatW) : ∀ i (h : i < l.length), (mwC l)[4 * i]? = some (.int .i64 l[i].1.1) ∧ (mwC l)[4 * i + 1]? = some (.string (str l[i].1.2.1)) ∧ (mwC l)[4 * i + 2]? = some (.string (str l[i].1.2.2.1)) ∧ (mwC l)[4 * i + 3]? = some (.slice l[i].2.1 l[i].1.2.2.2.length l[i].2.2) := by
  induction l with
  | nil => intro i h; simp at h
  | cons x r ih =>
    intro i h
    cases i with
    | zero => exact ⟨rfl, rfl, rfl, rfl⟩
    | succ i => exact ih i (by simpa using h)
theorem mwC_one (l : List MatW) : ∀ u ∈ mwC l, u.oneCell' = true := by
  induction l with
  | nil => intro u hu; simp [mwC] at hu
  | cons x r ih =>
    intro u hu
    simp only [mwC, List.mem_cons] at hu
    rcases hu with rfl | rfl | rfl | rfl | hu
    · rfl
    · rfl
    · rfl
    · rfl
    · exact ih u hu
def MsV (w : World) (xs : List MatW) : Prop := ∀ x ∈ xs, (x.1.2.1.length ≤ 9223372036854775807 ∧ x.1.2.2.1.length ≤ 9223372036854775807 ∧ x.1.2.2.2.length ≤ 9223372036854775807 ∧ -9223372036854775808 ≤ x.1.1 ∧ x.1.1 ≤ 9223372036854775807) ∧ StrsAt w x.2.1 x.1.2.2.2.length x.1.2.2.2
theorem MsV.append {w : World} {xs ys : List MatW} (h : MsV w xs) (k : MsV w ys) : MsV w (xs ++ ys) := fun x hx => by
  rcases List.mem_append.1 hx with hx | hx
  · exact h x hx
  · exact k x hx
/-- A slice of matchers' cells. -/
theorem ms_vals {w : World} {A : Option Addr} {n : Nat} {ms : List Mat} (h : MsAt w A n ms) : ∃ xs : List MatW, xs.map (·.1) = ms ∧ MsV w xs ∧ (A = none → xs = []) ∧ ∀ W, Below w.heap.size w W → ∀ ad, A = some ad → ∀ j u, (mwC xs)[j]? = some u → W.cell? (ad.add j) = some u := by
  have hn := h.1
  have hall : ∀ i, i < ms.length → ∃ z : Option Addr × Nat, ∃ ad, A = some ad ∧ (ad.add (i * 4)).block < w.heap.size ∧ ∀ hi : i < ms.length, (ms[i].2.1.length ≤ 9223372036854775807 ∧ ms[i].2.2.1.length ≤ 9223372036854775807 ∧ ms[i].2.2.2.length ≤ 9223372036854775807 ∧ -9223372036854775808 ≤ ms[i].1 ∧ ms[i].1 ≤ 9223372036854775807) ∧
      w.cell? (ad.add (i * 4)) = some (.int .i64 ms[i].1) ∧ w.cell? ⟨(ad.add (i * 4)).block, (ad.add (i * 4)).off + 1, none⟩ = some (.string (str ms[i].2.1)) ∧ w.cell? ⟨(ad.add (i * 4)).block, (ad.add (i * 4)).off + 2, none⟩ = some (.string (str ms[i].2.2.1)) ∧
      w.cell? ⟨(ad.add (i * 4)).block, (ad.add (i * 4)).off + 3, none⟩ = some (.slice z.1 ms[i].2.2.2.length z.2) ∧ StrsAt w z.1 ms[i].2.2.2.length ms[i].2.2.2 := by
    intro i hi
    obtain ⟨h1, ad, rfl, h2, h3, h4, h5, S, cap, h6, h7⟩ := h.2 i hi
    exact ⟨(S, cap), ad, rfl, h2, fun _ => ⟨h1, h3, h4, h5, h6, h7⟩⟩
  obtain ⟨f, hf⟩ := choose_lt (α := Option Addr × Nat) hall
  have hx : ∀ i (hi : i < ((List.range ms.length).attach.map fun j => ((ms[j.1]'(List.mem_range.1 j.2), f j.1) : MatW)).length), True := fun _ _ => trivial
  refine ⟨(List.range ms.length).attach.map fun j => (ms[j.1]'(List.mem_range.1 j.2), f j.1), ?_, ?_, ?_, ?_⟩
  · apply List.ext_getElem
    · simp
    · intro i h1 h2; simp
  · intro x hx
    obtain ⟨⟨j, hj⟩, _, rfl⟩ := List.mem_map.1 hx
    have hj2 := List.mem_range.1 hj
    obtain ⟨ad, _, _, hc⟩ := hf j hj2
    have := hc hj2
    exact ⟨this.1, this.2.2.2.2.2⟩
  · intro hA
    rcases Nat.eq_zero_or_pos ms.length with h0 | h0
    · apply List.length_eq_zero_iff.1; simp [h0]
    · obtain ⟨ad, e, _⟩ := hf 0 h0
      rw [hA] at e; cases e
  · intro W hW ad hA j u hu
    have hjl : j < (mwC ((List.range ms.length).attach.map fun j => (ms[j.1]'(List.mem_range.1 j.2), f j.1))).length := (List.getElem?_eq_some_iff.1 hu).1
    rw [mwC_length] at hjl
    simp at hjl
    obtain ⟨i, r, hi, hr, rfl⟩ : ∃ i r, i < ms.length ∧ r < 4 ∧ j = 4 * i + r := ⟨j / 4, j % 4, by omega, by omega, by omega⟩
    obtain ⟨ad', e, hb, hc⟩ := hf i hi
    rw [hA] at e
    injection e with e
    subst e
    obtain ⟨_, c0, c1, c2, c3, _⟩ := hc hi
    have hg := mwC_get ((List.range ms.length).attach.map fun j => ((ms[j.1]'(List.mem_range.1 j.2), f j.1) : MatW)) i (by simpa using hi)
    simp only [List.getElem_map, List.getElem_attach, List.getElem_range] at hg
    have ea : ∀ r, r ≠ 0 → ad.add (4 * i + r) = ⟨(ad.add (i * 4)).block, (ad.add (i * 4)).off + r, none⟩ := by
      intro r hr
      rcases ad with ⟨b, o, s⟩
      have h1 : (⟨b, o, s⟩ : Addr).add (4 * i + r) = ⟨b, o + (4 * i + r), none⟩ := by unfold Addr.add; rw [if_neg (show ¬ 4 * i + r = 0 by omega)]
      rw [h1]
      by_cases h0 : i = 0
      · subst h0; show _ = (⟨b, o + r, none⟩ : Addr); rw [show o + (4 * 0 + r) = o + r by omega]
      · have h2 : (⟨b, o, s⟩ : Addr).add (i * 4) = ⟨b, o + i * 4, none⟩ := by unfold Addr.add; rw [if_neg (show ¬ i * 4 = 0 by omega)]
        rw [h2]; show _ = (⟨b, o + i * 4 + r, none⟩ : Addr); rw [show o + i * 4 + r = o + (4 * i + r) by omega]
    match r, hr with
    | 0, _ =>
      rw [Nat.add_zero, hg.1] at hu
      injection hu with hu
      subst hu
      rw [show 4 * i + 0 = i * 4 by omega]
      exact (hW.cell (p := ad.add (i * 4)) hb).trans c0
    | 1, _ =>
      rw [hg.2.1] at hu
      injection hu with hu
      subst hu
      rw [ea 1 (by omega)]
      exact (hW.cell (p := ⟨(ad.add (i * 4)).block, (ad.add (i * 4)).off + 1, none⟩) hb).trans c1
    | 2, _ =>
      rw [hg.2.2.1] at hu
      injection hu with hu
      subst hu
      rw [ea 2 (by omega)]
      exact (hW.cell (p := ⟨(ad.add (i * 4)).block, (ad.add (i * 4)).off + 2, none⟩) hb).trans c2
    | 3, _ =>
      rw [hg.2.2.2] at hu
      injection hu with hu
      subst hu
      rw [ea 3 (by omega)]
      exact (hW.cell (p := ⟨(ad.add (i * 4)).block, (ad.add (i * 4)).off + 3, none⟩) hb).trans c3
/-- What a row of matchers of the call's own is to others. -/
theorem row_ms {B n cap : Nat} {A : Option Addr} {xs : List MatW} {w w0 : World} (h : w.ownsRow B 57 4 (.slice A n cap) n (mwC xs)) (hn : n = xs.length) (hV : MsV w0 xs) (hb : Below w0.heap.size w0 w) : MsAt w A n (xs.map (·.1)) := by
  refine ⟨by rw [List.length_map]; exact hn, fun i hi => ?_⟩
  have hil : i < xs.length := by simpa using hi
  have e : (xs.map (·.1))[i] = xs[i].1 := by simp
  rw [e]
  have hv := hV _ (List.getElem_mem hil)
  refine ⟨hv.1, ?_⟩
  rcases h.2 with ⟨e, h0⟩ | ⟨g, c, cur, e, hg, hbl, _⟩
  · omega
  · injection e with e1 e2 e3
    subst e1
    obtain ⟨c0, c1, c2, c3⟩ := mwC_get xs i hil
    have h0 := h.cellAt (4 * i) (by omega)
    have h1 := h.cellAt (4 * i + 1) (by omega)
    have h2 := h.cellAt (4 * i + 2) (by omega)
    have h3 := h.cellAt (4 * i + 3) (by omega)
    rw [c0] at h0
    rw [c1] at h1
    rw [c2] at h2
    rw [c3] at h3
    have ea : (⟨g, 0, none⟩ : Addr).add (i * 4) = ⟨g, 4 * i, none⟩ := by
      unfold Addr.add
      split <;> simp_all <;> omega
    refine ⟨_, rfl, ?_, ?_, ?_, ?_, xs[i].2.1, xs[i].2.2, ?_, ?_⟩
    · rw [ea]; exact lt_of_block hbl
    · rw [ea]; exact h0
    · rw [ea]; exact h1
    · rw [ea]; exact h2
    · rw [ea]; exact h3
    · exact hv.2.below hb
theorem made_ms (w : World) : (w.alloc (.cells #[] 57)).ownsRow w.heap.size 57 4 (.slice (some ⟨w.heap.size, 0, none⟩) 0 0) 0 (mwC []) :=
  World.ownsRow_made (e := 57) (size := 4) w #[] 0 (Nat.le_refl _) (by unfold maxLen; omega) rfl
set_option maxRecDepth 100000 in
theorem app_ms {w : World} {ops : Array Oper} {rest : List Oper} {o : Oper} {a : Act} {Q : Exit → Act → World → Prop} (hgd : o.guard = none) (s x : Operand)
    (ho : o.op = .call { callee := .builtin .append, args := #[s, x], argTypes := #[36, 36] })
    (base : Nat) (A0 : Option Addr) (n cap0 : Nat) (xs : List MatW) (hs : a.eval s = .slice A0 n cap0) (hown : w.ownsRow base 57 4 (.slice A0 n cap0) n (mwC xs))
    (A : Option Addr) (m c : Nat) (ys : List MatW) (hx : a.eval x = .slice A m c) (hm : m = ys.length) (hnil : A = none → ys = []) (hcells : ∀ ad, A = some ad → ∀ j u, (mwC ys)[j]? = some u → w.cell? (ad.add j) = some u) (h63 : n + m ≤ 1000) (hbase : base ≤ w.heap.size)
    (h : ∀ A' cap' w', w'.ownsRow base 57 4 (.slice A' (n + m) cap') (n + m) (mwC (xs ++ ys)) → Below base w w' → wpList Tryz.prog ops Q rest (a.put o.dst (.slice A' (n + m) cap')) w') :
    wpList Tryz.prog ops Q (o :: rest) a w := by
  obtain ⟨i0, hi0, hz0, hz1, hz2⟩ := info_parts mat_info7
  rw [mwC_append] at h
  rcases A with _ | ad
  · have hL := hnil rfl
    subst hL
    have hm0 : m = 0 := by simpa using hm
    subst hm0
    have hrun : (Builtin.append_ #[36, 36] o.type #[.slice A0 n cap0, .slice none 0 c]).run Tryz.prog w = .ok (.slice A0 n cap0) w := by
      rcases hown.2 with ⟨e, rfl⟩ | ⟨g, cap, cur, e, _, _, hnc, _⟩
      · injection e with e1 e2 e3
        subst e1 e3
        simp [Builtin.append_, run_underlying Tryz.underlying36, sizeOf, typeInfo, hi0, Builtin.lenOf, Builtin.firstCells]
      · injection e with e1 e2 e3
        subst e1 e3
        simp [Builtin.append_, run_underlying Tryz.underlying36, sizeOf, typeInfo, hi0, Builtin.lenOf, Builtin.firstCells, hnc, storeCells]
    refine wpList_plain hgd fun K hK => ?_
    unfold Oper.wp execOp
    simp only [ho, resolve, invoke, builtin, Sem.run_bind, Sem.run_pure, Result.andThen_ok, List.map_toArray, List.map_cons, List.map_nil, hs, hx, hrun]
    exact hK _ _ (h A0 cap0 w (by simpa [mwC] using hown) (Below.refl _ _))
  · refine wpList_append_own_at _ hgd s x 36 ho base 57 i0 (.agg #[.int .i64 0, .string (str []), .string (str []), .slice none 0 0]) 4 64 Tryz.underlying36 hi0 hz0 hz1 hz2 rfl (by decide) (.slice A0 n cap0) n _ hs hown ad m c (mwC ys) hx (by rw [mwC_length, ← hm, Nat.mul_comm]) (hcells ad rfl) (mwC_one ys) (by unfold maxLen; omega) (by omega) hbase ?_
    intro v' w' h1 h2 _ _
    obtain ⟨A', cap', rfl⟩ := row_slice h1
    exact h A' cap' w' h1 ((Below.refl base w).grown h2 hbase (fun k hk => (hown.lt k hk).1))
end Go.Proofs.YtdbifbgjbfnfmaaGreatDoor
/-
  An argument that is a slice of labels: its cells, read off what the statement gives.
-/
namespace Go.Proofs.YtdbifbgjbfnfmaaGreatDoor
open Go.ChangeShapes Go.WideShapes Go.ChangeAt Go.RowKit Go.Deep

theorem lab_str : Tryz.prog.cellsOf 9 = 1 := by kernel_rfl
section
variable {H : Type} {enc : TypeId × Value → H} {w : World} {base : Nat} {spare : Nat → Bool} {held : Bool}
set_option maxRecDepth 100000 in
/-- One label's two cells. -/
theorem open_lab {fuel : Nat} {cs : List Value} {x : DataW H × List MemPlace} (h : DataW.trod enc Tryz.prog w base spare held fuel 40 cs = some x) :
    ∃ (a k : List UInt8), cs = [.string (str a), .string (str k)] ∧ a.length ≤ 9223372036854775807 ∧ k.length ≤ 9223372036854775807 := by
  obtain ⟨ys, m, _, _, hlen, hyl, hf⟩ := DataW.trod_struct Tryz.underlying40 h
  rw [lab_cells] at hlen
  match cs, hlen with
  | [c0, c1], _ =>
    match ys, hyl with
    | [y0, y1], _ =>
      have h0 : DataW.trod enc Tryz.prog w base spare held m 9 (([c0, c1].drop 0).take (Tryz.prog.cellsOf 9)) = some y0 := hf 0 _ rfl
      have h1 : DataW.trod enc Tryz.prog w base spare held m 9 (([c0, c1].drop 1).take (Tryz.prog.cellsOf 9)) = some y1 := hf 1 _ rfl
      rw [lab_str] at h0 h1
      obtain ⟨a, e0, _, w0⟩ := DataW.trod_string Tryz.underlying9 h0
      obtain ⟨k, e1, _, w1⟩ := DataW.trod_string Tryz.underlying9 h1
      obtain ⟨a, rfl⟩ := str_of a
      obtain ⟨k, rfl⟩ := str_of k
      rw [str_size] at w0 w1
      unfold maxLen at w0 w1
      simp at e0 e1
      subst e0 e1
      exact ⟨a, k, rfl, by omega, by omega⟩
theorem open_labs {fuel : Nat} {a0 : Option Addr} {len cap : Nat} {x : DataW H × List MemPlace} (h : DataW.trod enc Tryz.prog w base spare held fuel 38 [.slice a0 len cap] = some x) :
    ∃ zs, LAt w a0 len zs ∧ len ≤ maxLen := by
  rcases open_slice Tryz.underlying38 h with ⟨e, _⟩ | ⟨a, l, c, m, n, D, Pl, e, _, hlc, hcm, hm, _, hx⟩
  · simp at e
    obtain ⟨rfl, rfl, rfl⟩ := e
    exact ⟨[], ⟨rfl, fun i h => by simp at h⟩, Nat.zero_le _⟩
  · simp at e
    obtain ⟨rfl, rfl, rfl⟩ := e
    have hlm : len ≤ m := by rw [hm]; split <;> omega
    have hall : ∀ i, i < len → ∃ z : Lab, z.1.length ≤ 9223372036854775807 ∧ z.2.length ≤ 9223372036854775807 ∧
        (a.add (i * 2)).block < w.heap.size ∧ w.cell? (a.add (i * 2)) = some (.string (str z.1)) ∧ w.cell? ⟨(a.add (i * 2)).block, (a.add (i * 2)).off + 1, none⟩ = some (.string (str z.2)) := by
      intro i hi
      obtain ⟨cs', hc, ht⟩ := hx i (by omega)
      obtain ⟨ka, kk, rfl, b1, b2⟩ := open_lab ht
      rw [lab_cells] at hc
      obtain ⟨_, _, hat⟩ := World.cells?_some hc
      have c0 := hat 0 (by omega)
      have c1 := hat 1 (by omega)
      exact ⟨(ka, kk), b1, b2, World.block_lt_of_cell? w _ c0, c0, c1⟩
    obtain ⟨f, hf⟩ := choose_lt (α := Lab) hall
    refine ⟨(List.range len).map f, ⟨by simp, fun i h => ?_⟩, by omega⟩
    have hi : i < len := by simpa using h
    have := hf i hi
    simp only [List.getElem_map, List.getElem_range]
    exact ⟨⟨this.1, this.2.1⟩, a, rfl, this.2.2⟩
end
end Go.Proofs.YtdbifbgjbfnfmaaGreatDoor
/-
  An argument that is a slice of slices of labels: its cells, read off what the statement gives.
-/
namespace Go.Proofs.YtdbifbgjbfnfmaaGreatDoor
open Go.ChangeShapes Go.WideShapes Go.ChangeAt Go.RowKit Go.Deep
set_option linter.unusedVariables false
theorem one_labs : Tryz.prog.cellsOf 38 = 1 := by kernel_rfl
section
variable {H : Type} {enc : TypeId × Value → H} {w : World} {base : Nat} {spare : Nat → Bool} {held : Bool}
theorem open_labs0 {fuel : Nat} {v : Value} {x : DataW H × List MemPlace} (h : DataW.trod enc Tryz.prog w base spare held fuel 38 [v] = some x) :
    ∃ A n c zs, v = .slice A n c ∧ LAt w A n zs ∧ n ≤ maxLen := by
  rcases open_slice Tryz.underlying38 h with ⟨e, _⟩ | ⟨a, l, c, m, n, D, Pl, e, _⟩
  · simp at e
    subst e
    obtain ⟨zs, h1, h2⟩ := open_labs h
    exact ⟨none, 0, 0, zs, rfl, h1, h2⟩
  · simp at e
    subst e
    obtain ⟨zs, h1, h2⟩ := open_labs h
    exact ⟨some a, l, c, zs, rfl, h1, h2⟩
theorem open_lls {fuel : Nat} {a0 : Option Addr} {len cap : Nat} {x : DataW H × List MemPlace} (h : DataW.trod enc Tryz.prog w base spare held fuel 22 [.slice a0 len cap] = some x) :
    ∃ zs, LLAt w a0 len cap zs ∧ len ≤ maxLen := by
  rcases open_slice1 Tryz.underlying22 one_labs h with ⟨e, _⟩ | ⟨a, l, c, m, n, V, D, Pl, e, _, hlc, hcm, hm, _, hx⟩
  · simp at e
    obtain ⟨rfl, rfl, rfl⟩ := e
    exact ⟨[], ⟨rfl, Nat.le_refl _, fun i h => by simp at h⟩, Nat.zero_le _⟩
  · simp at e
    obtain ⟨rfl, rfl, rfl⟩ := e
    have hlm : len ≤ m := by rw [hm]; split <;> omega
    have hall : ∀ i, i < len → ∃ z : List Lab, ∃ Ai ci, (a.add i).block < w.heap.size ∧ w.cell? (a.add i) = some (.slice Ai z.length ci) ∧ LAt w Ai z.length z ∧ z.length ≤ maxLen := by
      intro i hi
      obtain ⟨hc, ht⟩ := hx i (by omega)
      obtain ⟨A, n', c', zs, e, hI, hn⟩ := open_labs0 ht
      have hle := hI.1
      subst hle
      rw [e] at hc
      exact ⟨zs, A, c', World.block_lt_of_cell? w _ hc, hc, hI, hn⟩
    obtain ⟨f, hf⟩ := choose_lt (α := List Lab) hall
    refine ⟨(List.range len).map f, ⟨by simp, hlc, fun i h => ?_⟩, by omega⟩
    have hi : i < len := by simpa using h
    obtain ⟨Ai, ci, h1, h2, h3, h4⟩ := hf i hi
    simp only [List.getElem_map, List.getElem_range]
    exact ⟨a, Ai, ci, rfl, h1, h2, h3, h4⟩
end
end Go.Proofs.YtdbifbgjbfnfmaaGreatDoor
/-
  An argument that is a slice of strings: its cells, read off what the statement gives.
-/
namespace Go.Proofs.YtdbifbgjbfnfmaaGreatDoor
open Go.ChangeShapes Go.WideShapes Go.ChangeAt Go.RowKit Go.Deep

theorem one_str : Tryz.prog.cellsOf 9 = 1 := by kernel_rfl
section
variable {H : Type} {enc : TypeId × Value → H} {w : World} {base : Nat} {spare : Nat → Bool} {held : Bool}
theorem open_strs {fuel : Nat} {a0 : Option Addr} {len cap : Nat} {x : DataW H × List MemPlace} (h : DataW.trod enc Tryz.prog w base spare held fuel 28 [.slice a0 len cap] = some x) :
    ∃ zs, StrsAt w a0 len zs ∧ len ≤ maxLen := by
  rcases open_slice Tryz.underlying28 h with ⟨e, _⟩ | ⟨a, l, c, m, n, D, Pl, e, _, hlc, hcm, hm, _, hx⟩
  · simp at e
    obtain ⟨rfl, rfl, rfl⟩ := e
    exact ⟨[], ⟨rfl, fun i h => by simp at h⟩, Nat.zero_le _⟩
  · simp at e
    obtain ⟨rfl, rfl, rfl⟩ := e
    have hlm : len ≤ m := by rw [hm]; split <;> omega
    have hall : ∀ i, i < len → ∃ z : List UInt8, z.length ≤ 9223372036854775807 ∧ (a.add i).block < w.heap.size ∧ w.cell? (a.add i) = some (.string (str z)) := by
      intro i hi
      obtain ⟨cs', hc, ht⟩ := hx i (by omega)
      rw [one_str, Nat.mul_one] at hc
      obtain ⟨hlen, _, hat⟩ := World.cells?_some hc
      match cs', hlen with
      | [c0], _ =>
        obtain ⟨s, e0, _, w0⟩ := DataW.trod_string Tryz.underlying9 ht
        obtain ⟨s, rfl⟩ := str_of s
        rw [str_size] at w0
        unfold maxLen at w0
        simp at e0
        subst e0
        have c0 := hat 0 (by omega)
        exact ⟨s, by omega, World.block_lt_of_cell? w _ c0, c0⟩
    obtain ⟨f, hf⟩ := choose_lt (α := List UInt8) hall
    refine ⟨(List.range len).map f, ⟨by simp, fun i h => ?_⟩, by omega⟩
    have hi : i < len := by simpa using h
    have := hf i hi
    simp only [List.getElem_map, List.getElem_range]
    exact ⟨this.1, a, rfl, this.2⟩
end
end Go.Proofs.YtdbifbgjbfnfmaaGreatDoor
/-
  An argument that is a slice of matchers: its cells, read off what the statement gives.
-/
namespace Go.Proofs.YtdbifbgjbfnfmaaGreatDoor
open Go.ChangeShapes Go.WideShapes Go.ChangeAt Go.RowKit Go.Deep

theorem mat_cells : Tryz.prog.cellsOf 57 = 4 := by kernel_rfl
theorem mat_int : Tryz.prog.cellsOf 3 = 1 := by kernel_rfl
theorem mat_set : Tryz.prog.cellsOf 28 = 1 := by kernel_rfl
theorem i64_of {a : Int} (h : (Lit.int .i64 a).wf = true) : -9223372036854775808 ≤ a ∧ a ≤ 9223372036854775807 := by
  have e : IntKind.i64.min = -9223372036854775808 := by decide
  unfold Lit.wf at h
  simp at h
  omega
section
variable {H : Type} {enc : TypeId × Value → H} {w : World} {base : Nat} {spare : Nat → Bool} {held : Bool}
set_option maxRecDepth 100000 in
/-- One matcher's four cells. -/
theorem open_mat {fuel : Nat} {cs : List Value} {x : DataW H × List MemPlace} (h : DataW.trod enc Tryz.prog w base spare held fuel 57 cs = some x) :
    ∃ (m : Mat) (S : Option Addr) (cap : Nat), cs = [.int .i64 m.1, .string (str m.2.1), .string (str m.2.2.1), .slice S m.2.2.2.length cap] ∧
      (m.2.1.length ≤ 9223372036854775807 ∧ m.2.2.1.length ≤ 9223372036854775807 ∧ m.2.2.2.length ≤ 9223372036854775807 ∧ -9223372036854775808 ≤ m.1 ∧ m.1 ≤ 9223372036854775807) ∧ StrsAt w S m.2.2.2.length m.2.2.2 := by
  obtain ⟨ys, fu, _, _, hlen, hyl, hf⟩ := DataW.trod_struct Tryz.underlying57 h
  rw [mat_cells] at hlen
  match cs, hlen with
  | [c0, c1, c2, c3], _ =>
    match ys, hyl with
    | [y0, y1, y2, y3], _ =>
      have h0 : DataW.trod enc Tryz.prog w base spare held fu 3 (([c0, c1, c2, c3].drop 0).take (Tryz.prog.cellsOf 3)) = some y0 := hf 0 _ rfl
      have h1 : DataW.trod enc Tryz.prog w base spare held fu 9 (([c0, c1, c2, c3].drop 1).take (Tryz.prog.cellsOf 9)) = some y1 := hf 1 _ rfl
      have h2 : DataW.trod enc Tryz.prog w base spare held fu 9 (([c0, c1, c2, c3].drop 2).take (Tryz.prog.cellsOf 9)) = some y2 := hf 2 _ rfl
      have h3 : DataW.trod enc Tryz.prog w base spare held fu 28 (([c0, c1, c2, c3].drop 3).take (Tryz.prog.cellsOf 28)) = some y3 := hf 3 _ rfl
      rw [mat_int] at h0
      rw [one_str] at h1 h2
      rw [mat_set] at h3
      obtain ⟨k, e0, _, w0⟩ := DataW.trod_int Tryz.underlying3 h0
      obtain ⟨n, e1, _, w1⟩ := DataW.trod_string Tryz.underlying9 h1
      obtain ⟨v, e2, _, w2⟩ := DataW.trod_string Tryz.underlying9 h2
      obtain ⟨n, rfl⟩ := str_of n
      obtain ⟨v, rfl⟩ := str_of v
      rw [str_size] at w1 w2
      unfold maxLen at w1 w2
      have hs : ∃ S len cap, c3 = .slice S len cap := by
        rcases open_slice Tryz.underlying28 h3 with ⟨e, _⟩ | ⟨a, l, c, m, n, D, Pl, e, _⟩
        · simp at e; exact ⟨_, _, _, e⟩
        · simp at e; exact ⟨_, _, _, e⟩
      obtain ⟨S, len, cap, rfl⟩ := hs
      obtain ⟨zs, hz, hl⟩ := open_strs (cap := cap) (a0 := S) (len := len) (by simpa using h3)
      obtain ⟨b0, b1⟩ := i64_of w0
      simp at e0 e1 e2
      subst e0 e1 e2
      have := hz.1
      subst this
      unfold maxLen at hl
      exact ⟨(k, n, v, zs), S, cap, rfl, ⟨by omega, by omega, by omega, b0, b1⟩, hz⟩
theorem open_mats {fuel : Nat} {a0 : Option Addr} {len cap : Nat} {x : DataW H × List MemPlace} (h : DataW.trod enc Tryz.prog w base spare held fuel 36 [.slice a0 len cap] = some x) :
    ∃ zs, MsAt w a0 len zs ∧ len ≤ maxLen := by
  rcases open_slice Tryz.underlying36 h with ⟨e, _⟩ | ⟨a, l, c, m, n, D, Pl, e, _, hlc, hcm, hm, _, hx⟩
  · simp at e
    obtain ⟨rfl, rfl, rfl⟩ := e
    exact ⟨[], ⟨rfl, fun i h => by simp at h⟩, Nat.zero_le _⟩
  · simp at e
    obtain ⟨rfl, rfl, rfl⟩ := e
    have hlm : len ≤ m := by rw [hm]; split <;> omega
    have hall : ∀ i, i < len → ∃ z : Mat, (z.2.1.length ≤ 9223372036854775807 ∧ z.2.2.1.length ≤ 9223372036854775807 ∧ z.2.2.2.length ≤ 9223372036854775807 ∧ -9223372036854775808 ≤ z.1 ∧ z.1 ≤ 9223372036854775807) ∧
        (a.add (i * 4)).block < w.heap.size ∧ w.cell? (a.add (i * 4)) = some (.int .i64 z.1) ∧ w.cell? ⟨(a.add (i * 4)).block, (a.add (i * 4)).off + 1, none⟩ = some (.string (str z.2.1)) ∧
        w.cell? ⟨(a.add (i * 4)).block, (a.add (i * 4)).off + 2, none⟩ = some (.string (str z.2.2.1)) ∧ ∃ S cap, w.cell? ⟨(a.add (i * 4)).block, (a.add (i * 4)).off + 3, none⟩ = some (.slice S z.2.2.2.length cap) ∧ StrsAt w S z.2.2.2.length z.2.2.2 := by
      intro i hi
      obtain ⟨cs', hc, ht⟩ := hx i (by omega)
      obtain ⟨z, S, cp, rfl, b, hS⟩ := open_mat ht
      rw [mat_cells] at hc
      obtain ⟨_, _, hat⟩ := World.cells?_some hc
      have c0 := hat 0 (by omega)
      have c1 := hat 1 (by omega)
      have c2 := hat 2 (by omega)
      have c3 := hat 3 (by omega)
      exact ⟨z, b, World.block_lt_of_cell? w _ c0, c0, c1, c2, S, cp, c3, hS⟩
    obtain ⟨f, hf⟩ := choose_lt (α := Mat) hall
    refine ⟨(List.range len).map f, ⟨by simp, fun i h => ?_⟩, by omega⟩
    have hi : i < len := by simpa using h
    have := hf i hi
    simp only [List.getElem_map, List.getElem_range]
    exact ⟨this.1, a, rfl, this.2⟩
end
end Go.Proofs.YtdbifbgjbfnfmaaGreatDoor
/-
  What the listed variables' data say of their cells: the two tables of unicode/utf8. A world that holds them.
-/
namespace Go.Proofs.YtdbifbgjbfnfmaaGreatDoor
open Go.RowKit

theorem first_eq : Rows.laid_unicode_utf8_first = Lib.firstData := by kernel_rfl
theorem accept_eq : (Rows.laid_unicode_utf8_acceptRanges : DataW Unit) = Lib.acceptData := by kernel_rfl
def laidAll : List (String × DataW Unit) := [("unicode/utf8.acceptRanges", Rows.laid_unicode_utf8_acceptRanges), ("unicode/utf8.first", Rows.laid_unicode_utf8_first)]
theorem laidAll_met {W : World} (h : laidMetH Tryz.prog laidAll W) : laidMet Tryz.prog laidAll W := h
theorem tabs {W : World} (h : laidMetH Tryz.prog laidAll W) : Lib.Utf8Tabs 1 2 W := by
  have hL := laidAll_met h
  have h4 := Lib.laidMet.reads hL (.head _)
  have h3 := Lib.laidMet.reads hL (.tail _ (.head _))
  rw [accept_eq] at h4
  rw [first_eq] at h3
  exact utf8Tabs_of_readsT (U8Types.of260 Tryz.lays260) ⟨by kernel_rfl, by kernel_rfl, by kernel_rfl, by kernel_rfl, by kernel_rfl, by kernel_rfl, by kernel_rfl⟩ h3 h4
def firstCells : Array Value := (Lib.firstTab.map (Value.int .u8)).toArray
def acceptCells : Array Value := ((List.range 16).flatMap fun i => [Value.int .u8 (Lib.accLo i : Int), .int .u8 (Lib.accHi i : Int)]).toArray
/-- A block with these cells. -/
def withCells (cs : Array Value) : Obj → Obj
  | .cells _ t frozen => .cells cs t frozen
  | o => o
/-- A world that holds the two tables. -/
noncomputable def laidWorld (os : Os) : World :=
  { World.holding Tryz.prog os ⟨#[], #[], []⟩ with heap := ((World.holding Tryz.prog os ⟨#[], #[], []⟩).heap.modify 1 (withCells firstCells)).modify 2 (withCells acceptCells) }
end Go.Proofs.YtdbifbgjbfnfmaaGreatDoor
