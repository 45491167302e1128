/-
  Rows of texts in memory: such that were there, and the call's own.
-/
import Derived.Test.YtndmndchbfmppaaMem
import Derived.Test.YtndmndchbfmppaaProg
import Derived.Test.YtndmndchbfmppaaShelf
import Derived.Deep.Fields
import Derived.Deep.Slices
import Derived.Deep.RegionHeld3
import Derived.Deep.OwnRows
import Derived.Outline
import Derived.BigQuiet
import Derived.Deep.QuietTactic
import Derived.Deep.RegionWith
import Derived.OpenShut
import Derived.Deep.Onto
import Derived.Lib.Hide
import Derived.IntWalk
import Derived.BigRegion
import Derived.Deep.AppendLies
import Derived.RegionTactic
namespace Go.Proofs.Ytndmndchbfmppaa
open Go.RowKit Go.Deep
attribute [local go_sem] str_size str_append str_toList str_get str_extract
set_option linter.unusedVariables false
set_option linter.unusedSimpArgs false
abbrev Byts := List UInt8
/-- A slice of texts that was there. -/
def TsAt (w : World) (A : Option Addr) (len cap : Nat) (l : List Byts) : Prop :=
  len = l.length ∧ len ≤ cap ∧ ∀ i (h : i < l.length), l[i].length ≤ 9223372036854775807 ∧
    ∃ ad, A = some ad ∧ (ad.add i).block < w.heap.size ∧ w.cell? (ad.add i) = some (.string (str l[i]))
theorem TsAt.below {w w' : World} {A : Option Addr} {len cap : Nat} {l : List Byts} (h : TsAt w A len cap l) (hb : Below w.heap.size w w') : TsAt w' A len cap l :=
  ⟨h.1, h.2.1, fun i hi => by
    obtain ⟨h1, ad, rfl, h2, h3⟩ := h.2.2 i hi
    exact ⟨h1, ad, rfl, Nat.lt_of_lt_of_le h2 hb.size, (hb.cell (p := ad.add i) h2).trans h3⟩⟩
theorem TsAt.nil (w : World) (A : Option Addr) (cap : Nat) : TsAt w A 0 cap [] := ⟨rfl, Nat.zero_le _, fun i h => by simp at h⟩
theorem TsAt.drewN {w : World} {A : Option Addr} {len cap : Nat} {l : List Byts} (h : TsAt w A len cap l) (n : Nat) : TsAt (w.drewN n) A len cap l := h
/-- Its first ones. -/
theorem TsAt.taken {w : World} {A : Option Addr} {n cap : Nat} {l : List Byts} (h : TsAt w A n cap l) (k : Nat) (hk : k ≤ n) : TsAt w A k cap (l.take k) := by
  have h1 := h.1
  have h2 := h.2.1
  refine ⟨by rw [List.length_take]; omega, by omega, fun i hi => ?_⟩
  rw [List.length_take] at hi
  obtain ⟨r, ad, rfl, b1, b2⟩ := h.2.2 i (by omega)
  exact ⟨by simpa using r, _, rfl, b1, by simpa using b2⟩
/-! a row of the call's own -/
def txtC (l : List Byts) : List Value := l.map fun x => .string (str x)
theorem txtC_append (l m : List Byts) : txtC (l ++ m) = txtC l ++ txtC m := by simp [txtC]
structure NewT (B : Nat) (v : Value) (l : List Byts) (w : World) : Prop where
  own : w.ownsRow B 9 1 v l.length (txtC l)
  rng : ∀ x ∈ l, x.length ≤ 9223372036854775807
theorem NewT.alloc {B : Nat} {v : Value} {l : List Byts} {w : World} (h : NewT B v l w) (o : Obj) : NewT B v l (w.alloc o) := ⟨h.own.alloc o, h.rng⟩
theorem NewT.keeps {B : Nat} {v : Value} {l : List Byts} {F : List Nat} {w w' : World} (h : NewT B v l w) (hk : Keeps F w w') (hF : ∀ k, v.ownBlock = some k → k ∉ F) : NewT B v l w' := ⟨hk.row h.own hF, h.rng⟩
theorem NewT.below {B : Nat} {v : Value} {l : List Byts} {w w' : World} (h : NewT B v l w) (hb : Below w.heap.size w w') : NewT B v l w' := h.keeps (F := []) (Keeps.below hb) (by simp)
theorem NewT.mono {B B' : Nat} {v : Value} {l : List Byts} {w : World} (h : NewT B v l w) (hb : B' ≤ B) : NewT B' v l w := ⟨h.own.mono hb, h.rng⟩
theorem NewT.drewN {B : Nat} {v : Value} {l : List Byts} {w : World} (h : NewT B v l w) (n : Nat) : NewT B v l (w.drewN n) := ⟨h.own, h.rng⟩
theorem NewT.nil (B : Nat) (w : World) : NewT B (.slice none 0 0) [] w := ⟨⟨rfl, .inl ⟨rfl, rfl⟩⟩, by simp⟩
theorem NewT.empty (w : World) (B : Nat) (hB : B ≤ w.heap.size) : NewT B (.slice (some ⟨w.heap.size, 0, none⟩) 0 0) [] (w.alloc (.cells #[] 9)) :=
  ⟨(World.ownsRow_made w #[] 0 (Nat.le_refl _) (by unfold maxLen; omega) rfl).mono hB, by simp⟩
/-- Its shape, and what it is to others. -/
theorem NewT.at {B : Nat} {v : Value} {l : List Byts} {w : World} (h : NewT B v l w) : ∃ A cap, v = .slice A l.length cap ∧ TsAt w A l.length cap l := by
  rcases h.own.2 with ⟨e, h0⟩ | ⟨g, c, cur, e, hg, hb, hc, _⟩
  · have : l = [] := List.length_eq_zero_iff.1 h0
    subst this
    exact ⟨none, 0, e, TsAt.nil _ _ _⟩
  · refine ⟨_, _, e, rfl, hc, fun i hi => ⟨h.rng _ (List.getElem_mem hi), _, rfl, ?_, ?_⟩⟩
    · show ((⟨g, 0, none⟩ : Addr).add i).block < _
      have : ((⟨g, 0, none⟩ : Addr).add i).block = g := by unfold Addr.add; split <;> rfl
      rw [this]; exact lt_of_block hb
    · subst e
      have := h.own.cells (g := g) rfl i (.string (str l[i])) (by simp [txtC, hi])
      exact this
theorem NewT.is {B : Nat} {A : Option Addr} {cap : Nat} {l : List Byts} {w : World} (h : NewT B (.slice A l.length cap) l w) : TsAt w A l.length cap l := by
  obtain ⟨A', c', e, h1⟩ := h.at
  injection e with e1 _ e3
  subst e1 e3
  exact h1
theorem NewT.block {B n cap : Nat} {A : Option Addr} {l : List Byts} {w : World} (h : NewT B (.slice A n cap) l w) (hl : l ≠ []) : ∃ g, A = some ⟨g, 0, none⟩ ∧ B ≤ g ∧ g < w.heap.size := by
  rcases h.own.2 with ⟨e, h0⟩ | ⟨g, c, cur, e, hg, hb, _⟩
  · exact absurd (List.length_eq_zero_iff.1 h0) hl
  · injection e with e1 _ _
    exact ⟨g, e1, hg, lt_of_block hb⟩
theorem txt_info : (Try.prog.info? 9).map (fun i => (i.zero, i.size, i.bytes)) = some (some (.string ⟨#[]⟩), 1, 16) := by kernel_rfl
theorem TsAt.congr {w : World} {A : Option Addr} {len cap : Nat} {l m : List Byts} (h : TsAt w A len cap l) (e : l = m) : TsAt w A len cap m := e ▸ h
theorem TsAt.cells {w : World} {ad : Addr} {n cap : Nat} {l : List Byts} (h : TsAt w (some ad) n cap l) : ∀ j u, (txtC l)[j]? = some u → w.cell? (ad.add j) = some u := by
  intro j u hu
  have hj : j < l.length := by
    rcases Nat.lt_or_ge j l.length with hj | hj
    · exact hj
    · rw [List.getElem?_eq_none (by simpa [txtC] using hj)] at hu; cases hu
  obtain ⟨_, ad', e, _, h3⟩ := h.2.2 j hj
  injection e with e
  subst e
  rw [h3]
  have : (txtC l)[j]? = some (.string (str l[j])) := by simp [txtC, hj]
  rw [this] at hu
  exact hu
/-- 'append(l, x)'. -/
theorem app_txt {ops : Array Oper} {rest : List Oper} {o : Oper} {a : Act} {Q : Exit → Act → World → Prop} {w w0 : World} (hgd : o.guard = none) (s x : Operand)
    (ho : o.op = .call { callee := .builtin .append, args := #[s, x], argTypes := #[29, 29] })
    {B : Nat} {v : Value} {l : List Byts} (hs : a.eval s = v) (hN : NewT B v l w0) (n : Byts) (hx : a.eval x = .slice (some ⟨w0.heap.size, 0, none⟩) 1 1) (hw : w = w0.alloc (.cells #[.string (str n)] 9))
    (h1 : n.length ≤ 9223372036854775807) (hlen : l.length ≤ 1000000) (hB : B ≤ w0.heap.size)
    (h : ∀ A cap w' L, Hid (L = l ++ [n]) → NewT B (.slice A L.length cap) L w' → Below B w0 w' → wpList Try.prog ops Q rest (a.put o.dst (.slice A L.length cap)) w') :
    wpList Try.prog ops Q (o :: rest) a w := by
  obtain ⟨i0, hi0, hz0, hz1, hz2⟩ := info_parts txt_info
  subst hw
  refine wpList_append_own_at _ hgd s x 29 ho B 9 i0 (.string ⟨#[]⟩) 1 16 Try.underlying29 hi0 hz0 hz1 hz2 rfl (by decide) v l.length _ hs (hN.own.alloc _) ⟨w0.heap.size, 0, none⟩ 1 1 [.string (str n)] hx rfl (cell_one_new _ _ _) ?_ (by unfold maxLen; omega) (by omega) (by simp; omega) ?_
  · intro u hu; simp at hu; subst hu; rfl
  · intro v' w' hown hg _ _
    obtain ⟨A, cap, rfl⟩ := row_slice hown
    have e : (l ++ [n]).length = l.length + 1 := by simp
    rw [← e] at hown ⊢
    refine h A cap w' (l ++ [n]) rfl ⟨?_, ?_⟩ ?_
    · rw [txtC_append]; exact hown
    · intro y hy
      rcases List.mem_append.1 hy with hy | hy
      · exact hN.rng y hy
      · simp at hy; subst hy; exact h1
    · exact (((Below.refl B w0).alloc hB _).grown hg (by simp; omega) (fun k hk => (hN.own.lt k hk).1))
/-- Texts behind texts: the source may be nil. -/
theorem app_txts {w : World} {ops : Array Oper} {rest : List Oper} {o : Oper} {a : Act} {Q : Exit → Act → World → Prop} (hgd : o.guard = none) (s x : Operand)
    (ho : o.op = .call { callee := .builtin .append, args := #[s, x], argTypes := #[29, 29] })
    {B : Nat} {v : Value} {l : List Byts} (hs : a.eval s = v) (hN : NewT B v l w) (A : Option Addr) (m c : Nat) (L : List Byts) (hx : a.eval x = .slice A m c) (hA : TsAt w A m c L)
    (hlen : l.length + L.length ≤ 1000000) (hB : B ≤ w.heap.size)
    (h : ∀ A' cap' w' M, Hid (M = l ++ L) → NewT B (.slice A' M.length cap') M w' → Below B w w' → wpList Try.prog ops Q rest (a.put o.dst (.slice A' M.length cap')) w') :
    wpList Try.prog ops Q (o :: rest) a w := by
  obtain ⟨i0, hi0, hz0, hz1, hz2⟩ := info_parts txt_info
  have hm := hA.1
  subst hm
  rcases A with _ | ad
  · have hL : L = [] := by
      cases L with
      | nil => rfl
      | cons y L => obtain ⟨_, ad, e, _⟩ := hA.2.2 0 (by simp); cases e
    subst hL
    have hrun : (Builtin.append_ #[29, 29] o.type #[v, .slice none 0 c]).run Try.prog w = .ok v w := by
      rcases hN.own.2 with ⟨rfl, _⟩ | ⟨g, cap, cur, rfl, _, _, hnc, _⟩
      · simp [Builtin.append_, run_underlying Try.underlying29, sizeOf, typeInfo, hi0, Builtin.lenOf, Builtin.firstCells]
      · simp [Builtin.append_, run_underlying Try.underlying29, sizeOf, typeInfo, hi0, Builtin.lenOf, Builtin.firstCells, hnc, storeCells]
    obtain ⟨A', cap', e, _⟩ := hN.at
    refine wpList_plain hgd fun K hK => ?_
    unfold Oper.wp execOp
    simp only [ho, resolve, invoke, builtin, Sem.run_bind, Sem.run_pure, Result.andThen_ok, List.map_toArray, List.map_cons, List.map_nil, hs, hx, hrun, List.length_nil]
    refine hK _ _ ?_
    rw [e]
    refine h A' cap' w l (by show _ = _; simp) ?_ (Below.refl _ _)
    rw [← e]; exact hN
  · refine wpList_append_own_at _ hgd s x 29 ho B 9 i0 (.string ⟨#[]⟩) 1 16 Try.underlying29 hi0 hz0 hz1 hz2 rfl (by decide) v l.length _ hs hN.own ad L.length c (txtC L) hx (by simp [txtC]) hA.cells ?_ (by unfold maxLen; omega) (by omega) hB ?_
    · intro u hu; obtain ⟨y, _, rfl⟩ := List.mem_map.1 hu; rfl
    · intro v' w' hown hg _ _
      obtain ⟨A', cap', rfl⟩ := row_slice hown
      have e : (l ++ L).length = l.length + L.length := by simp
      rw [← e] at hown ⊢
      refine h A' cap' w' (l ++ L) rfl ⟨?_, ?_⟩ ?_
      · rw [txtC_append]; exact hown
      · intro y hy
        rcases List.mem_append.1 hy with hy | hy
        · exact hN.rng y hy
        · obtain ⟨j, hj, rfl⟩ := List.getElem_of_mem hy
          exact (hA.2.2 j hj).1
      · exact (Below.refl B w).grown hg hB (fun k hk => (hN.own.lt k hk).1)
end Go.Proofs.Ytndmndchbfmppaa
