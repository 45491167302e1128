/-
  Layer 9 (block): a row of rows of texts of the law's own (what each sector may be).
-/
import Derived.Test.YtndmndchbfmppaaBlockUse
namespace Go.Proofs.Ytndmndchbfmppaa
open Go.RowKit Go.Deep
set_option linter.unusedVariables false
set_option linter.unusedSimpArgs false
theorem NewT.stay {B g n c : Nat} {l : List Byts} {w w' : World} (h : NewT B (.slice (some ⟨g, 0, none⟩) n c) l w) (e : w'.heap[g]? = w.heap[g]?) : NewT B (.slice (some ⟨g, 0, none⟩) n c) l w' := by
  refine ⟨⟨h.own.1, ?_⟩, h.rng⟩
  rcases h.own.2 with ⟨e0, _⟩ | ⟨g', cp, cur, e0, hB, hg, rest⟩
  · cases e0
  · injection e0 with e1 e2 e3
    injection e1 with e1
    injection e1 with e1
    subst e1
    subst e2 e3
    exact .inr ⟨g, _, cur, rfl, hB, e.trans hg, rest⟩
def Xof (bm : Nat) (g : Nat → Nat) (n : Nat) : List Nat := bm :: (List.range n).map g
theorem mem_Xof {bm n k : Nat} {g : Nat → Nat} : k ∈ Xof bm g n ↔ k = bm ∨ ∃ j, j < n ∧ g j = k := by simp [Xof]
/-- The first n rows stand; L: what they have; g: where. -/
structure MayAt (B bm : Nat) (g : Nat → Nat) (L : Nat → List Byts) (n : Nat) (w : World) : Prop where
  n12 : n ≤ 12
  row : ∃ cp : Nat → Nat, w.rowIs bm 29 12 (fun j => if j < n then .slice (some ⟨g j, 0, none⟩) (L j).length (cp j) else .slice none 0 0) ∧ ∀ j, j < n → NewT B (.slice (some ⟨g j, 0, none⟩) (L j).length (cp j)) (L j) w
  one : ∀ j k, j < n → k < n → g j = g k → j = k
  low : B ≤ bm ∧ ∀ j, j < n → B ≤ g j
  ne : ∀ j, j < n → g j ≠ bm
theorem MayAt.stay {B bm n : Nat} {g : Nat → Nat} {L : Nat → List Byts} {w w' : World} (h : MayAt B bm g L n w) (hs : Stay (Xof bm g n) w w') : MayAt B bm g L n w' := by
  obtain ⟨h0, ⟨cp, h1, h2⟩, h3, h4, h5⟩ := h
  exact ⟨h0, ⟨cp, h1.of_block (hs bm (mem_Xof.2 (.inl rfl))), fun j hj => (h2 j hj).stay (hs _ (mem_Xof.2 (.inr ⟨j, hj, rfl⟩)))⟩, h3, h4, h5⟩
theorem MayAt.xlow {B bm n : Nat} {g : Nat → Nat} {L : Nat → List Byts} {w : World} (h : MayAt B bm g L n w) : ∀ k ∈ Xof bm g n, B ≤ k := fun k hk => by
  rcases mem_Xof.1 hk with rfl | ⟨j, hj, rfl⟩
  · exact h.low.1
  · exact h.low.2 j hj
theorem MayAt.rowLt {B bm n : Nat} {g : Nat → Nat} {L : Nat → List Byts} {w : World} (h : MayAt B bm g L n w) {j : Nat} (hj : j < n) : g j < w.heap.size := by
  obtain ⟨cp, h1, h2⟩ := h.row
  rcases (h2 j hj).own.2 with ⟨e0, _⟩ | ⟨g', cq, cur, e0, hB, hg, rest⟩
  · cases e0
  · injection e0 with e1 e2 e3
    injection e1 with e1
    injection e1 with e1
    rw [e1]; exact lt_of_block hg
theorem MayAt.xlt {B bm n : Nat} {g : Nat → Nat} {L : Nat → List Byts} {w : World} (h : MayAt B bm g L n w) : ∀ k ∈ Xof bm g n, k < w.heap.size := fun k hk => by
  rcases mem_Xof.1 hk with rfl | ⟨j, hj, rfl⟩
  · obtain ⟨cp, h1, _⟩ := h.row
    exact h1.lt
  · exact h.rowLt hj
/-- Row i is another one: in its old block, or in a new one. -/
theorem MayAt.put {B bm n m i c g' len : Nat} {g : Nat → Nat} {L : Nat → List Byts} {l : List Byts} {w w4 : World} (h : MayAt B bm g L n w) (hm : m ≤ 12) (hi : (i < n ∧ m = n) ∨ (i = n ∧ m = n + 1)) (hB : B ≤ w.heap.size) (hK : Keeps (if i < n then [g i] else []) w w4) (hlen : len = l.length)
    (hN : NewT B (.slice (some ⟨g', 0, none⟩) l.length c) l w4) (hg : (i < n ∧ g' = g i) ∨ w.heap.size ≤ g') :
    MayAt B bm (fun j => if j = i then g' else g j) (fun j => if j = i then l else L j) m (w4.setCell ⟨bm, i, none⟩ (.slice (some ⟨g', 0, none⟩) len c)) ∧ Keeps (Xof bm g n) w (w4.setCell ⟨bm, i, none⟩ (.slice (some ⟨g', 0, none⟩) len c)) ∧
      (∀ k ∈ Xof bm (fun j => if j = i then g' else g j) m, (k ∈ Xof bm g n ∨ w.heap.size ≤ k) ∧ k < (w4.setCell ⟨bm, i, none⟩ (.slice (some ⟨g', 0, none⟩) len c)).heap.size) := by
  subst hlen
  obtain ⟨cp, h1, h2⟩ := h.row
  have hbm := h1.lt
  have hne : g' ≠ bm := by
    rcases hg with ⟨h0, e⟩ | e
    · rw [e]; exact h.ne i h0
    · omega
  have hbK : bm ∉ (if i < n then [g i] else []) := by
    split
    · rename_i h0; simp; exact fun e => h.ne i h0 e.symm
    · simp
  have hrow4 := rowIs_keeps h1 hK hbK
  have hother : ∀ j, j < n → j ≠ i → g j ≠ g' ∧ g j ∉ (if i < n then [g i] else []) := fun j hj hji => by
    constructor
    · rcases hg with ⟨h0, e⟩ | e
      · rw [e]; exact fun e2 => hji (h.one j i hj h0 e2)
      · have := h.rowLt hj; omega
    · split
      · rename_i h0; simp; exact fun e2 => hji (h.one j i hj h0 e2)
      · simp
  have hset : ∀ k, k ≠ bm → (w4.setCell ⟨bm, i, none⟩ (.slice (some ⟨g', 0, none⟩) l.length c)).heap[k]? = w4.heap[k]? := fun k hk => Below.heap_setCell w4 ⟨bm, i, none⟩ _ k hk
  have hsz : (w4.setCell ⟨bm, i, none⟩ (.slice (some ⟨g', 0, none⟩) l.length c)).heap.size = w4.heap.size := by simp [World.setCell]
  have hg4 : g' < w4.heap.size := by
    rcases hN.own.2 with ⟨e0, _⟩ | ⟨g2, cq, cur, e0, hB2, hg2, rest⟩
    · cases e0
    · injection e0 with e1 e2 e3
      injection e1 with e1
      injection e1 with e1
      rw [e1]; exact lt_of_block hg2
  refine ⟨⟨hm, ⟨fun j => if j = i then c else cp j, ?_, fun j hj => ?_⟩, fun j k hj hk e => ?_, ⟨h.low.1, fun j hj => ?_⟩, fun j hj => ?_⟩, ?_, fun k hk => ?_⟩
  · refine (hrow4.set i _).congr (fun j hj => ?_)
    by_cases e : j = i
    · subst e
      simp only [if_true]
      rw [if_pos (by omega)]
    · simp only [if_neg e]
      by_cases e2 : j < n
      · rw [if_pos e2, if_pos (by omega)]
      · rw [if_neg e2, if_neg (by omega)]
  · by_cases e : j = i
    · subst e
      simp only [if_true]
      exact hN.stay (hset _ hne)
    · simp only [if_neg e]
      have hjn : j < n := by omega
      obtain ⟨k1, k2⟩ := hother j hjn e
      exact (h2 j hjn).stay ((hset _ (h.ne j hjn)).trans (hK.same _ (h.rowLt hjn) k2))
  · by_cases ej : j = i <;> by_cases ek : k = i
    · omega
    · simp only [if_pos ej, if_neg ek] at e
      exact absurd e.symm (hother k (by omega) ek).1
    · simp only [if_neg ej, if_pos ek] at e
      exact absurd e (hother j (by omega) ej).1
    · simp only [if_neg ej, if_neg ek] at e
      exact h.one j k (by omega) (by omega) e
  · by_cases e : j = i
    · simp only [if_pos e]
      rcases hg with ⟨h0, e2⟩ | e2
      · rw [e2]; exact h.low.2 i h0
      · omega
    · simp only [if_neg e]; exact h.low.2 j (by omega)
  · by_cases e : j = i
    · simp only [if_pos e]; exact hne
    · simp only [if_neg e]; exact h.ne j (by omega)
  · have hk2 : Keeps (Xof bm g n) w w4 := hK.more (fun f hf => .inl (by
      split at hf
      · rename_i h0; simp at hf; subst hf; exact mem_Xof.2 (.inr ⟨i, h0, rfl⟩)
      · simp at hf))
    exact hk2.setCell (p := ⟨bm, i, none⟩) (.inl (mem_Xof.2 (.inl rfl))) _
  · rw [hsz]
    rcases mem_Xof.1 hk with rfl | ⟨j, hj, e⟩
    · exact ⟨.inl (mem_Xof.2 (.inl rfl)), Nat.lt_of_lt_of_le hbm hK.size⟩
    · by_cases ej : j = i
      · simp only [if_pos ej] at e
        subst e
        refine ⟨?_, hg4⟩
        rcases hg with ⟨h0, e2⟩ | e2
        · exact .inl (mem_Xof.2 (.inr ⟨i, h0, e2.symm⟩))
        · exact .inr e2
      · simp only [if_neg ej] at e
        subst e
        have hjn : j < n := by omega
        exact ⟨.inl (mem_Xof.2 (.inr ⟨j, hjn, rfl⟩)), Nat.lt_of_lt_of_le (h.rowLt hjn) hK.size⟩
/-- Row i's value, its texts. -/
theorem MayAt.at {B bm n i : Nat} {g : Nat → Nat} {L : Nat → List Byts} {w : World} (h : MayAt B bm g L n w) (hi : i < n) : ∃ c, w.cell? ⟨bm, i, none⟩ = some (.slice (some ⟨g i, 0, none⟩) (L i).length c) ∧ w.frozen? ⟨bm, i, none⟩ = false ∧ NewT B (.slice (some ⟨g i, 0, none⟩) (L i).length c) (L i) w := by
  obtain ⟨cp, h1, h2⟩ := h.row
  have := h1.cell (i := i) (by have := h.n12; omega)
  rw [if_pos hi] at this
  exact ⟨_, this, h1.frozen i, h2 i hi⟩
theorem MayAt.start {B : Nat} {w : World} {g : Nat → Nat} {L : Nat → List Byts} (hB : B ≤ w.heap.size) : MayAt B w.heap.size g L 0 (w.alloc (.cells (madeCells #[.slice none 0 0] 12) 29)) :=
  ⟨by omega, ⟨fun _ => 0, (World.rowIs_made w (.slice none 0 0) 12 29).congr (fun j _ => by rw [if_neg (by omega)]), fun j hj => by omega⟩, fun j k hj => by omega, ⟨hB, fun j hj => by omega⟩, fun j hj => by omega⟩
theorem MayAt.out {B bm n i : Nat} {g : Nat → Nat} {L : Nat → List Byts} {w : World} (h : MayAt B bm g L n w) (hi : n ≤ i) (h12 : i < 12) : w.cell? ⟨bm, i, none⟩ = some (.slice none 0 0) ∧ w.frozen? ⟨bm, i, none⟩ = false := by
  obtain ⟨cp, h1, h2⟩ := h.row
  have := h1.cell (i := i) h12
  rw [if_neg (by omega)] at this
  exact ⟨this, h1.frozen i⟩
theorem MayAt.bmLt {B bm n : Nat} {g : Nat → Nat} {L : Nat → List Byts} {w : World} (h : MayAt B bm g L n w) : bm < w.heap.size := by
  obtain ⟨cp, h1, h2⟩ := h.row
  exact h1.lt
theorem txt_one (w : World) (s : Byts) (B : Nat) (hB : B ≤ w.heap.size) (hs : s.length ≤ 9223372036854775807) : NewT B (.slice (some ⟨w.heap.size, 0, none⟩) [s].length 1) [s] (w.alloc (.cells #[.string (str s)] 9)) :=
  ⟨⟨rfl, .inr ⟨w.heap.size, 1, #[.string (str s)], rfl, hB, heap_alloc_new w _, Nat.le_refl _, by unfold maxLen; omega, rfl, rfl⟩⟩, by intro x hx; simp at hx; subst hx; exact hs⟩
theorem ss_info9 : (Try.prog.info? 29).map (fun i => (i.zero, i.size, i.bytes)) = some (some (.slice none 0 0), 1, 24) := by kernel_rfl
theorem BsAt.lt {w : World} {ad : Addr} {len : Nat} {l : List BStp} (h : BsAt w (some ad) len l) (i : Nat) (hi : i < l.length) : (ad.add (i * 4)).block < w.heap.size := by
  obtain ⟨_, ad', ea, h2, _⟩ := h.2 i hi
  injection ea with ea
  subst ea
  exact h2
theorem cons_last (a : Byts) (l : List Byts) : (a :: l)[l.length]'(by simp) = l.getLastD a := by
  rw [List.getLastD_eq_getLast?]
  cases l with
  | nil => rfl
  | cons b t => rw [List.getLast?_eq_getElem?]; simp
theorem mem_take_succ9 (x : Byts) (l : List Byts) (m : Nat) (h : m < l.length) : decide (x ∈ l.take (m + 1)) = (decide (x ∈ l.take m) || (x == l[m])) := by
  have e : x ∈ l.take (m + 1) ↔ (x ∈ l.take m ∨ x = l[m]) := by rw [List.take_succ_eq_append_getElem h, List.mem_append, List.mem_singleton]
  by_cases h1 : x ∈ l.take m
  · rw [decide_eq_true (e.2 (.inl h1)), decide_eq_true h1]; rfl
  · rw [decide_eq_false h1, Bool.false_or]
    by_cases h2 : x = l[m]
    · rw [decide_eq_true (e.2 (.inr h2))]; exact (beq_iff_eq.2 h2).symm
    · rw [decide_eq_false (fun h3 => (e.1 h3).elim h1 h2)]; exact (beq_eq_false_iff_ne.2 h2).symm
theorem add_zero9 (g m : Nat) : (⟨g, 0, none⟩ : Addr).add m = ⟨g, m, none⟩ := by unfold Addr.add; split <;> simp_all
end Go.Proofs.Ytndmndchbfmppaa
