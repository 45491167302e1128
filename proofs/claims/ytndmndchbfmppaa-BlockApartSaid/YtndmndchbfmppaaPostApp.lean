/-
  Layer 6 (post): an integer behind a row of the call's own; rising ones of a list; the document's And and Not.
-/
import Derived.Test.YtndmndchbfmppaaPostMem
namespace Go.Proofs.Ytndmndchbfmppaa
open Go.RowKit Go.Deep
set_option linter.unusedVariables false
set_option linter.unusedSimpArgs false

theorem app_one {ops : Array Oper} {rest : List Oper} {o : Oper} {a : Act} {Q : Exit → Act → World → Prop} {w w0 : World} (hgd : o.guard = none) (s x : Operand)
    (ho : o.op = .call { callee := .builtin .append, args := #[s, x], argTypes := #[60, 60] })
    {B : Nat} {v : Value} {l : List Int} (hs : a.eval s = v) (hN : NewI B v l w0) (n : Int) (hx : a.eval x = .slice (some ⟨w0.heap.size, 0, none⟩) 1 1) (hw : w = w0.alloc (.cells #[.int .i64 n] 3))
    (h1 : -9223372036854775808 ≤ n) (h2 : n ≤ 9223372036854775807) (hlen : l.length ≤ 100000) (hB : B ≤ w0.heap.size)
    (h : ∀ A cap w' L, Hid (L = l ++ [n]) → NewI B (.slice A L.length cap) L w' → Below B w0 w' → wpList Try.prog ops Q rest (a.put o.dst (.slice A L.length cap)) w') :
    wpList Try.prog ops Q (o :: rest) a w := by
  obtain ⟨i0, hi0, hz0, hz1, hz2⟩ := info_parts int_info
  subst hw
  refine wpList_append_own_at _ hgd s x 60 ho B 3 i0 (.int .i64 0) 1 8 Try.underlying60 hi0 hz0 hz1 hz2 rfl (by decide) v l.length _ hs (hN.own.alloc _) ⟨w0.heap.size, 0, none⟩ 1 1 [.int .i64 n] hx rfl (cell_one_new _ _ _) ?_ (by unfold maxLen; omega) (by omega) (by simp; omega) ?_
  · intro u hu; simp at hu; subst hu; rfl
  · intro v' w' hown hg _ _
    obtain ⟨A, cap, rfl⟩ := row_slice hown
    have e : (l ++ [n]).length = l.length + 1 := by simp
    rw [← e] at hown ⊢
    refine h A cap w' (l ++ [n]) rfl ⟨?_, ?_⟩ ?_
    · rw [intC_append]; exact hown
    · intro y hy
      rcases List.mem_append.1 hy with hy | hy
      · exact hN.rng y hy
      · simp at hy; subst hy; exact ⟨h1, h2⟩
    · exact (((Below.refl B w0).alloc hB _).grown hg (by simp; omega) (fun k hk => (hN.own.lt k hk).1))
theorem NewI.empty (w : World) (B : Nat) (hB : B ≤ w.heap.size) : NewI B (.slice (some ⟨w.heap.size, 0, none⟩) 0 0) [] (w.alloc (.cells #[] 3)) :=
  ⟨(World.ownsRow_made w #[] 0 (Nat.le_refl _) (by unfold maxLen; omega) rfl).mono hB, by simp⟩
theorem IAt.last {w : World} {A : Option Addr} {n cap : Nat} {l : List Int} (h : IAt w A n cap l) (hl : l ≠ []) :
    ∃ ad m y, A = some ad ∧ l.length = m + 1 ∧ (ad.add m).block < w.heap.size ∧ w.cell? (ad.add m) = some (.int .i64 y) ∧ l.getLast? = some y ∧ -9223372036854775808 ≤ y ∧ y ≤ 9223372036854775807 := by
  have hp := List.length_pos_iff.2 hl
  obtain ⟨⟨r1, r2⟩, ad, rfl, h1, h2⟩ := h.2.2 (l.length - 1) (by omega)
  exact ⟨ad, l.length - 1, _, rfl, by omega, h1, h2, by rw [List.getLast?_eq_getElem?, List.getElem?_eq_getElem], r1, r2⟩
end Go.Proofs.Ytndmndchbfmppaa
