/-
  Layer 9 (block): the program's disk: one more write waits.
-/
import Derived.Test.YtndmndchbfmppaaBlockXa
import Derived.Test.YtndmndchbfmppaaPostApp
import Derived.Test.YtndmndchbfmppaaHeld
import Derived.Deep.AppendLies
namespace Go.Proofs.Ytndmndchbfmppaa
open Go.RowKit Go.Deep
attribute [local go_sem] str_size str_append str_toList str_get str_extract
set_option linter.unusedVariables false
set_option linter.unusedSimpArgs false
set_option linter.unusedSectionVars false
/-- The first three of a row of four. -/
theorem NewT.three {B cap : Nat} {A : Option Addr} {l : List Byts} {w : World} (h : NewT B (.slice A l.length cap) l w) (h4 : l.length = 4) : NewT B (.slice A (l.take 3).length cap) (l.take 3) w := by
  rcases h.own.2 with ⟨e, h0⟩ | ⟨g, c, cur, e, hg, hb, h1, h2, h3, h5⟩
  · omega
  · injection e with e1 _ e3
    subst e1 e3
    have e6 : (l.take 3).length = 3 := by rw [List.length_take]; omega
    refine ⟨⟨by simp [txtC], .inr ⟨g, cap, cur, rfl, hg, hb, by omega, h2, h3, ?_⟩⟩, fun x hx => h.rng x (List.mem_of_mem_take hx)⟩
    rw [e6]
    have e7 : cur.toList.take (3 * 1) = (cur.toList.take (l.length * 1)).take 3 := by rw [List.take_take]; congr 1; omega
    rw [e7, h5]
    simp [txtC, List.map_take]
/-- What the look-up gives: the row that waits, or none. -/
theorem BodyB.looked {F : List Nat} {q bm : Nat} {bk : Nat → Nat} {vs : Nat → Value} {D : DataW Value} {nn lv : Nat} {S : DSt} {w : World} (h : BodyB F q bm bk vs D nn lv S w) (i : Nat) (hi : i < S.n) :
    ∃ A cap, (getI D (i : Int)).getD (.slice none 0 0) = .slice A (short (S.wt i)).length cap ∧ NewT 0 (.slice A (short (S.wt i)).length cap) (short (S.wt i)) w ∧ (short (S.wt i)).length ≤ cap ∧ (∀ g, (Value.slice A (short (S.wt i)).length cap).ownBlock = some g → S.wt i ≠ [] ∧ g = bk i) ∧ (getI D (i : Int)).isSome = decide (S.wt i ≠ []) := by
  by_cases hw : S.wt i = []
  · rw [h.noneAt hw, hw]
    exact ⟨none, 0, rfl, NewT.nil 0 w, Nat.le_refl _, fun g e => by simp [Value.ownBlock] at e, by simp⟩
  · obtain ⟨a, b, c, d⟩ := h.row i hi hw
    obtain ⟨cap, cur, e, -⟩ := h.bkBlk hi hw
    rw [a]
    refine ⟨_, cap, e, e ▸ b, ?_, fun g eg => ⟨hw, ?_⟩, by simp [hw]⟩
    · exact (show NewT 0 (.slice (some ⟨bk i, 0, none⟩) (short (S.wt i)).length cap) (short (S.wt i)) w from e ▸ b).is.2.1
    · rw [← e, c] at eg
      exact (Option.some.inj eg).symm
set_option maxRecDepth 100000 in
set_option maxHeartbeats 2000000 in
theorem bWait_c (F : List Nat) (q : Nat) (S : DSt) (c : Nat) (w : World) (h : IsBc F q S c w) (hc : c ≤ 1000000) (i : Nat) (hi : i < S.n) (s : Byts) (hs : s.length ≤ 64) :
    Calls Try.prog 30 #[.pointer (some ⟨q, 0, none⟩), .int .i64 (i : Int), .string (str s)] w fun e w' => e = .returned (.tuple #[]) ∧ DidBc F q (putD S i s) (c + 1) w w' := by
  obtain ⟨bm, bk, vs, D, nn, lv, hb, hn⟩ := h
  obtain ⟨i0, hi0, hz0, hz1, hz2⟩ := info_parts txt_info
  have n2 := hb.n2
  have cM := hb.cM
  obtain ⟨A, cap, e0, hN, hcap, hbl, -⟩ := hb.looked i hi
  have hlk := hb.mp.look false (e := 29) Try.underlying3 Try.underlying51 (z := .slice none 0 0) (by kernel_rfl) (i : Int) (wf_i64 (by omega) (by omega))
  simp only [Bool.false_eq_true, if_false, e0] at hlk
  have hl4 := (short_len (S.wt i)).1
  have hput := short_put (S.wt i) s
  have hroom : room (short (S.wt i)) = if (short (S.wt i)).length = 4 then (short (S.wt i)).take 3 else short (S.wt i) := rfl
  obtain ⟨L, hL⟩ : ∃ L, short (S.wt i) = L := ⟨_, rfl⟩
  rw [hL] at hN hcap hbl hlk hl4 hput hroom
  obtain ⟨M, hM⟩ : ∃ M, L.length = M := ⟨_, rfl⟩
  have HB := Lib.hid (And.intro hb (And.intro hn (And.intro hi hs)))
  have HP := Lib.hid hput
  have hcm := hb.mp.lt
  clear hL e0 hb hput
  by_cases hq : L.length = 4
  · have hR : room L = L.take 3 := by rw [hroom, if_pos hq]
    have hN2 : NewT 0 (.slice A 3 cap) (room L) w := by rw [hR]; exact by have := hN.three hq; rw [show (L.take 3).length = 3 by rw [List.length_take]; omega] at this; exact this
    rw [hM] at hcap hlk hl4
    obtain rfl : M = 4 := by omega
    have hbl2 : ∀ g, (Value.slice A 3 cap).ownBlock = some g → S.wt i ≠ [] ∧ g = bk i := fun g hg => hbl g (by
      cases A with
      | none => simp [Value.ownBlock] at hg
      | some a => exact hg)
    have HN := Lib.hid (And.intro hN2 (And.intro hbl2 hM))
    have HR := Lib.hid hR
    clear hN hN2 hbl hbl2 hroom hM hR hi
    go_enter Try.func30, Try.ntmps30
    go_wp2_with fail
    have S1 := And.intro cM True.intro
    refine wp_region_held_drew (S := fun W => W.cell? ⟨q, 512, none⟩ = some (.map (some bm)) ∧ True) (by kernel_rfl) S1 (fun hHeld => ?_)
    clear S1 hlk
    refine held_w (i := 0) (d := some 18) (v := ?_) rfl (by kernel_rfl) (by kernel_rfl) (by kernel_rfl) (fun _ _ _ h => h) (by rfl) ?_ hHeld ?_
    rotate_left
    · intro w' hSw; obtain ⟨q0, q1⟩ := hSw; simp only [List.getElem?_toArray, List.getElem?_cons_zero, List.getElem?_cons_succ]; go_simp; try with_reducible rfl
    try simp only [Act.put, List.setIfInBounds_toArray, List.set_cons_zero, List.set_cons_succ]
    refine held_w (i := 1) (d := some 19) (v := ?_) rfl (by kernel_rfl) (by kernel_rfl) (by kernel_rfl) (fun _ _ _ h => h) (by rfl) ?_ hHeld ?_
    rotate_left
    · intro w' hSw; obtain ⟨q0, q1⟩ := hSw; simp only [List.getElem?_toArray, List.getElem?_cons_zero, List.getElem?_cons_succ]; go_simp; try with_reducible rfl
    try simp only [Act.put, List.setIfInBounds_toArray, List.set_cons_zero, List.set_cons_succ]
    refine held_w (i := 2) (d := some 20) (v := ?_) rfl (by kernel_rfl) (by kernel_rfl) (by kernel_rfl) (fun _ _ _ h => h) (by rfl) ?_ hHeld ?_
    rotate_left
    · intro w' hSw; obtain ⟨q0, q1⟩ := hSw; simp only [List.getElem?_toArray, List.getElem?_cons_zero, List.getElem?_cons_succ]; go_simp; try with_reducible rfl
    try simp only [Act.put, List.setIfInBounds_toArray, List.set_cons_zero, List.set_cons_succ]
    refine held_w (i := 3) (d := some 21) (v := ?_) rfl (by kernel_rfl) (by kernel_rfl) (by kernel_rfl) (fun _ _ _ h => h) (by rfl) ?_ hHeld ?_
    rotate_left
    · intro w' hSw; obtain ⟨q0, q1⟩ := hSw; simp only [List.getElem?_toArray, List.getElem?_cons_zero, List.getElem?_cons_succ]; go_simp; try with_reducible rfl
    try simp only [Act.put, List.setIfInBounds_toArray, List.set_cons_zero, List.set_cons_succ]
    refine held_w (i := 4) (d := some 22) (v := ?_) rfl (by kernel_rfl) (by kernel_rfl) (by kernel_rfl) (fun _ _ _ h => h) (by rfl) ?_ hHeld ?_
    rotate_left
    · intro w' hSw; obtain ⟨q0, q1⟩ := hSw; simp only [List.getElem?_toArray, List.getElem?_cons_zero, List.getElem?_cons_succ]; go_simp; try with_reducible rfl
    try simp only [Act.put, List.setIfInBounds_toArray, List.set_cons_zero, List.set_cons_succ]
    refine held_w (i := 5) (d := some 23) (v := ?_) rfl (by kernel_rfl) (by kernel_rfl) (by kernel_rfl) (fun _ _ _ h => h) (by rfl) ?_ hHeld ?_
    rotate_left
    · intro w' hSw; obtain ⟨q0, q1⟩ := hSw; simp only [List.getElem?_toArray, List.getElem?_cons_zero, List.getElem?_cons_succ]; go_simp; try with_reducible rfl
    try simp only [Act.put, List.setIfInBounds_toArray, List.set_cons_zero, List.set_cons_succ]
    refine held_w (i := 6) (d := some 24) (v := ?_) rfl (by kernel_rfl) (by kernel_rfl) (by kernel_rfl) (fun _ _ _ h => h) (by rfl) ?_ hHeld ?_
    rotate_left
    · intro w' hSw; obtain ⟨q0, q1⟩ := hSw; simp only [List.getElem?_toArray, List.getElem?_cons_zero, List.getElem?_cons_succ]; go_simp; try with_reducible rfl
    try simp only [Act.put, List.setIfInBounds_toArray, List.set_cons_zero, List.set_cons_succ]
    refine held_c (i := 7) (by kernel_rfl) (by rfl) (fun K hK => ?_)
    simp only [List.getElem?_toArray, List.getElem?_cons_zero, List.getElem?_cons_succ]
    go_simp
    have hK1 : Keeps [] w (w.drew.alloc (.cells #[.string (str s)] 9)) := (Keeps.refl [] w).drew.alloc _
    refine hK.out _ _ ⟨(World.cell?_of_block (hK1.same q (HB.out.1.lt _ HB.out.1.qF) (by simp))).trans cM, trivial⟩ (fun hHeld => ?_)
    clear hK K
    try simp only [Act.put, List.setIfInBounds_toArray, List.set_cons_zero, List.set_cons_succ]
    refine held_c (i := 8) (by kernel_rfl) (by rfl) (fun K hK => ?_)
    simp only [List.getElem?_toArray, List.getElem?_cons_zero, List.getElem?_cons_succ]
    refine wp_append_lies _ (.tmp 23) (.tmp 25) 29 rfl 0 9 i0 (.string ⟨#[]⟩) 1 16 Try.underlying29 hi0 hz0 hz1 hz2 rfl (by decide) (.slice A 3 cap) 3 (txtC (room L)) rfl (by have := HN.out.1.own; rw [show (room L).length = 3 by rw [HR.out, List.length_take]; have := HN.out.2.2; omega] at this; exact this.drew.alloc _) ⟨w.drew.heap.size, 0, none⟩ 1 1 [.string (str s)] rfl rfl (cell_one_new _ _ _) (by intro u hu; simp at hu; subst hu; rfl) (by decide) (by unfold maxLen; omega) (by omega) (Nat.zero_le _) _ rfl ?_
    intro g1 cap1 w4 hown1 hg1 hl0 hl1
    have hK4 : Keeps (Value.slice A 3 cap).ownBlock.toList w w4 := (hK1.more (by simp)).grown hg1 (fun k hk => by left; simp [hk])
    have hcell : w4.cell? ⟨q, 512, none⟩ = some (.map (some bm)) := (World.cell?_of_block (hK4.same q (HB.out.1.lt _ HB.out.1.qF) (fun hx => by
      simp at hx
      obtain ⟨h1, h2⟩ := HN.out.2.1 q hx
      exact HB.out.1.apart_qb HB.out.2.2.1 h1 h2))).trans cM
    refine hK.out _ _ ⟨hcell, trivial⟩ (fun hHeld => ?_)
    have HN4 := Lib.hid (And.intro hown1 (And.intro hl0 hK4))
    clear hK K hown1 hg1 hl0 hl1 hK1
    try simp only [Act.put, List.setIfInBounds_toArray, List.set_cons_zero, List.set_cons_succ]
    refine held_c (i := 9) (by kernel_rfl) (by rfl) (fun K hK => ?_)
    simp only [List.getElem?_toArray, List.getElem?_cons_zero, List.getElem?_cons_succ]
    refine wp_storeI _ (.tmp 21) (.tmp 22) (.tmp 26) 51 rfl 3 29 Try.underlying3 Try.underlying51 bm nn D rfl (HB.out.1.mp.keeps hK4 (fun hm => by
      simp at hm
      obtain ⟨h1, h2⟩ := HN.out.2.1 bm hm
      exact HB.out.1.apart_mb HB.out.2.2.1 h1 h2)) (by have := HB.out.2.1; unfold maxLen; omega) (i : Int) (.slice (some ⟨g1, 0, none⟩) (3 + 1) cap1) rfl rfl (wf_i64 (by omega) (by have := HB.out.2.2.1; omega)) ?_
    intro w5 hM5 hg5
    have hD : DidBc F q (putD S i s) (c + 1) w w5 := by
      obtain ⟨hb, hn, hi, hs⟩ := HB.out
      obtain ⟨hN2, hbl, hM⟩ := HN.out
      obtain ⟨hown1, hl0, hK4⟩ := HN4.out
      have hlen : (room L ++ [s]).length = 3 + 1 := by rw [HR.out, List.length_append]; simp [hM]
      have hK5 : Keeps (bm :: (Value.slice A 3 cap).ownBlock.toList) w w5 := (hK4.more (fun k hk => .inl (by simp [hk]))).grown hg5 (fun k hk => by left; simp at hk; simp [hk])
      have hg1l : g1 < w4.heap.size := by
        rcases hown1.2 with ⟨e, _⟩ | ⟨g, cc, cur, e, _, hbk, _⟩
        · cases e
        · injection e with e1 _ _
          injection e1 with e1
          injection e1 with e1
          subst e1
          exact lt_of_block hbk
      have hl2 : w.heap.size ≤ g1 ∨ (S.wt i ≠ [] ∧ g1 = bk i) := by
        rcases hl0 with h | h
        · exact .inr (hbl g1 h)
        · left; rw [h]; simp
      have hne : g1 ≠ bm := by
        rcases hl2 with h | ⟨h1, h2⟩
        · have := hb.lt _ hb.mF; omega
        · rw [h2]; exact fun e => hb.apart_mb hi h1 e.symm
      have hN5 : NewT 0 (.slice (some ⟨g1, 0, none⟩) (3 + 1) cap1) (room L ++ [s]) w5 := by
        refine ⟨?_, ?_⟩
        · rw [hlen, txtC_append]
          exact (Keeps.refl [bm] w4 |>.grown hg5 (fun k hk => by left; simp at hk; simp [hk])).row hown1 (fun k hk => by simp [Value.ownBlock] at hk; subst hk; simpa using hne)
        · intro y hy
          rcases List.mem_append.1 hy with hy | hy
          · exact hN2.rng y hy
          · simp at hy; subst hy; omega
      have hP := hb.put (i := i) (s := s) (g := g1) hi hs hK5 (fun k hk => by
        rcases List.mem_cons.1 hk with rfl | hk
        · exact .inl rfl
        · simp at hk
          exact .inr (hbl k hk)) hM5 (by rw [HP.out]; exact hN5) (by simp [Value.ownBlock]) hl2 (Nat.lt_of_lt_of_le hg1l hg5.size)
      refine ⟨⟨_, ⟨bm, _, _, _, _, lv, hP, by omega⟩, fun k hk => ?_⟩, hK5.more (fun k hk => ?_)⟩
      · rcases List.mem_cons.1 hk with rfl | hk
        · rcases hl2 with h | ⟨h1, h2⟩
          · exact .inr h
          · exact .inl (h2 ▸ (hb.row i hi h1).2.2.2)
        · exact .inl hk
      · rcases List.mem_cons.1 hk with rfl | hk
        · exact .inl hb.mF
        · simp at hk
          obtain ⟨h1, h2⟩ := hbl k hk
          exact .inl (h2 ▸ (hb.row i hi h1).2.2.2)
    refine hK.out _ _ ⟨(World.cell?_of_block (hg5.block q (by have := hK4.size; have := HB.out.1.lt _ HB.out.1.qF; omega) (fun e => by injection e with e; exact HB.out.1.apart_qm e))).trans hcell, trivial⟩ (fun hHeld => ?_)
    have HD := Lib.hid hD
    clear hK K hM5 hg5 hD
    try simp only [Act.put, List.setIfInBounds_toArray, List.set_cons_zero, List.set_cons_succ]
    refine wpAnyH_done (by kernel_rfl) ?_ _
    go_wp2_with fail
    go_end0
    exact ⟨rfl, HD.out⟩
  · have hR : room L = L := by rw [hroom, if_neg hq]
    have hN2 : NewT 0 (.slice A M cap) (room L) w := by rw [hR]; exact hM ▸ hN
    rw [hM] at hcap hlk hl4
    have hq2 : ((M : Int) == 4) = false := by rw [beq_eq_false_iff_ne]; omega
    have hbl2 : ∀ g, (Value.slice A M cap).ownBlock = some g → S.wt i ≠ [] ∧ g = bk i := fun g hg => hbl g (by
      cases A with
      | none => simp [Value.ownBlock] at hg
      | some a => exact hg)
    have HN := Lib.hid (And.intro hN2 (And.intro hbl2 hM))
    have HR := Lib.hid hR
    clear hN hN2 hbl hbl2 hroom hM hR hi
    go_enter Try.func30, Try.ntmps30
    go_wp2_with fail
    have S1 := And.intro cM True.intro
    refine wp_region_held_drew (S := fun W => W.cell? ⟨q, 512, none⟩ = some (.map (some bm)) ∧ True) (by kernel_rfl) S1 (fun hHeld => ?_)
    clear S1 hlk
    refine held_w (i := 0) (d := some 18) (v := ?_) rfl (by kernel_rfl) (by kernel_rfl) (by kernel_rfl) (fun _ _ _ h => h) (by rfl) ?_ hHeld ?_
    rotate_left
    · intro w' hSw; obtain ⟨q0, q1⟩ := hSw; simp only [List.getElem?_toArray, List.getElem?_cons_zero, List.getElem?_cons_succ]; go_simp; try with_reducible rfl
    try simp only [Act.put, List.setIfInBounds_toArray, List.set_cons_zero, List.set_cons_succ]
    refine held_w (i := 1) (d := some 19) (v := ?_) rfl (by kernel_rfl) (by kernel_rfl) (by kernel_rfl) (fun _ _ _ h => h) (by rfl) ?_ hHeld ?_
    rotate_left
    · intro w' hSw; obtain ⟨q0, q1⟩ := hSw; simp only [List.getElem?_toArray, List.getElem?_cons_zero, List.getElem?_cons_succ]; go_simp; try with_reducible rfl
    try simp only [Act.put, List.setIfInBounds_toArray, List.set_cons_zero, List.set_cons_succ]
    refine held_w (i := 2) (d := some 20) (v := ?_) rfl (by kernel_rfl) (by kernel_rfl) (by kernel_rfl) (fun _ _ _ h => h) (by rfl) ?_ hHeld ?_
    rotate_left
    · intro w' hSw; obtain ⟨q0, q1⟩ := hSw; simp only [List.getElem?_toArray, List.getElem?_cons_zero, List.getElem?_cons_succ]; go_simp; try with_reducible rfl
    try simp only [Act.put, List.setIfInBounds_toArray, List.set_cons_zero, List.set_cons_succ]
    refine held_w (i := 3) (d := some 21) (v := ?_) rfl (by kernel_rfl) (by kernel_rfl) (by kernel_rfl) (fun _ _ _ h => h) (by rfl) ?_ hHeld ?_
    rotate_left
    · intro w' hSw; obtain ⟨q0, q1⟩ := hSw; simp only [List.getElem?_toArray, List.getElem?_cons_zero, List.getElem?_cons_succ]; go_simp; try with_reducible rfl
    try simp only [Act.put, List.setIfInBounds_toArray, List.set_cons_zero, List.set_cons_succ]
    refine held_w (i := 4) (d := some 22) (v := ?_) rfl (by kernel_rfl) (by kernel_rfl) (by kernel_rfl) (fun _ _ _ h => h) (by rfl) ?_ hHeld ?_
    rotate_left
    · intro w' hSw; obtain ⟨q0, q1⟩ := hSw; simp only [List.getElem?_toArray, List.getElem?_cons_zero, List.getElem?_cons_succ]; go_simp; try with_reducible rfl
    try simp only [Act.put, List.setIfInBounds_toArray, List.set_cons_zero, List.set_cons_succ]
    refine held_w (i := 5) (d := some 23) (v := ?_) rfl (by kernel_rfl) (by kernel_rfl) (by kernel_rfl) (fun _ _ _ h => h) (by rfl) ?_ hHeld ?_
    rotate_left
    · intro w' hSw; obtain ⟨q0, q1⟩ := hSw; simp only [List.getElem?_toArray, List.getElem?_cons_zero, List.getElem?_cons_succ]; go_simp; try with_reducible rfl
    try simp only [Act.put, List.setIfInBounds_toArray, List.set_cons_zero, List.set_cons_succ]
    refine held_w (i := 6) (d := some 24) (v := ?_) rfl (by kernel_rfl) (by kernel_rfl) (by kernel_rfl) (fun _ _ _ h => h) (by rfl) ?_ hHeld ?_
    rotate_left
    · intro w' hSw; obtain ⟨q0, q1⟩ := hSw; simp only [List.getElem?_toArray, List.getElem?_cons_zero, List.getElem?_cons_succ]; go_simp; try with_reducible rfl
    try simp only [Act.put, List.setIfInBounds_toArray, List.set_cons_zero, List.set_cons_succ]
    refine held_c (i := 7) (by kernel_rfl) (by rfl) (fun K hK => ?_)
    simp only [List.getElem?_toArray, List.getElem?_cons_zero, List.getElem?_cons_succ]
    go_simp
    have hK1 : Keeps [] w (w.drew.alloc (.cells #[.string (str s)] 9)) := (Keeps.refl [] w).drew.alloc _
    refine hK.out _ _ ⟨(World.cell?_of_block (hK1.same q (HB.out.1.lt _ HB.out.1.qF) (by simp))).trans cM, trivial⟩ (fun hHeld => ?_)
    clear hK K
    try simp only [Act.put, List.setIfInBounds_toArray, List.set_cons_zero, List.set_cons_succ]
    refine held_c (i := 8) (by kernel_rfl) (by rfl) (fun K hK => ?_)
    simp only [List.getElem?_toArray, List.getElem?_cons_zero, List.getElem?_cons_succ]
    refine wp_append_lies _ (.tmp 23) (.tmp 25) 29 rfl 0 9 i0 (.string ⟨#[]⟩) 1 16 Try.underlying29 hi0 hz0 hz1 hz2 rfl (by decide) (.slice A M cap) M (txtC (room L)) rfl (by have := HN.out.1.own; rw [show (room L).length = M by rw [HR.out]; exact HN.out.2.2] at this; exact this.drew.alloc _) ⟨w.drew.heap.size, 0, none⟩ 1 1 [.string (str s)] rfl rfl (cell_one_new _ _ _) (by intro u hu; simp at hu; subst hu; rfl) (by decide) (by unfold maxLen; omega) (by omega) (Nat.zero_le _) _ rfl ?_
    intro g1 cap1 w4 hown1 hg1 hl0 hl1
    have hK4 : Keeps (Value.slice A M cap).ownBlock.toList w w4 := (hK1.more (by simp)).grown hg1 (fun k hk => by left; simp [hk])
    have hcell : w4.cell? ⟨q, 512, none⟩ = some (.map (some bm)) := (World.cell?_of_block (hK4.same q (HB.out.1.lt _ HB.out.1.qF) (fun hx => by
      simp at hx
      obtain ⟨h1, h2⟩ := HN.out.2.1 q hx
      exact HB.out.1.apart_qb HB.out.2.2.1 h1 h2))).trans cM
    refine hK.out _ _ ⟨hcell, trivial⟩ (fun hHeld => ?_)
    have HN4 := Lib.hid (And.intro hown1 (And.intro hl0 hK4))
    clear hK K hown1 hg1 hl0 hl1 hK1
    try simp only [Act.put, List.setIfInBounds_toArray, List.set_cons_zero, List.set_cons_succ]
    refine held_c (i := 9) (by kernel_rfl) (by rfl) (fun K hK => ?_)
    simp only [List.getElem?_toArray, List.getElem?_cons_zero, List.getElem?_cons_succ]
    refine wp_storeI _ (.tmp 21) (.tmp 22) (.tmp 26) 51 rfl 3 29 Try.underlying3 Try.underlying51 bm nn D rfl (HB.out.1.mp.keeps hK4 (fun hm => by
      simp at hm
      obtain ⟨h1, h2⟩ := HN.out.2.1 bm hm
      exact HB.out.1.apart_mb HB.out.2.2.1 h1 h2)) (by have := HB.out.2.1; unfold maxLen; omega) (i : Int) (.slice (some ⟨g1, 0, none⟩) (M + 1) cap1) rfl rfl (wf_i64 (by omega) (by have := HB.out.2.2.1; omega)) ?_
    intro w5 hM5 hg5
    have hD : DidBc F q (putD S i s) (c + 1) w w5 := by
      obtain ⟨hb, hn, hi, hs⟩ := HB.out
      obtain ⟨hN2, hbl, hM⟩ := HN.out
      obtain ⟨hown1, hl0, hK4⟩ := HN4.out
      have hlen : (room L ++ [s]).length = M + 1 := by rw [HR.out, List.length_append]; simp [hM]
      have hK5 : Keeps (bm :: (Value.slice A M cap).ownBlock.toList) w w5 := (hK4.more (fun k hk => .inl (by simp [hk]))).grown hg5 (fun k hk => by left; simp at hk; simp [hk])
      have hg1l : g1 < w4.heap.size := by
        rcases hown1.2 with ⟨e, _⟩ | ⟨g, cc, cur, e, _, hbk, _⟩
        · cases e
        · injection e with e1 _ _
          injection e1 with e1
          injection e1 with e1
          subst e1
          exact lt_of_block hbk
      have hl2 : w.heap.size ≤ g1 ∨ (S.wt i ≠ [] ∧ g1 = bk i) := by
        rcases hl0 with h | h
        · exact .inr (hbl g1 h)
        · left; rw [h]; simp
      have hne : g1 ≠ bm := by
        rcases hl2 with h | ⟨h1, h2⟩
        · have := hb.lt _ hb.mF; omega
        · rw [h2]; exact fun e => hb.apart_mb hi h1 e.symm
      have hN5 : NewT 0 (.slice (some ⟨g1, 0, none⟩) (M + 1) cap1) (room L ++ [s]) w5 := by
        refine ⟨?_, ?_⟩
        · rw [hlen, txtC_append]
          exact (Keeps.refl [bm] w4 |>.grown hg5 (fun k hk => by left; simp at hk; simp [hk])).row hown1 (fun k hk => by simp [Value.ownBlock] at hk; subst hk; simpa using hne)
        · intro y hy
          rcases List.mem_append.1 hy with hy | hy
          · exact hN2.rng y hy
          · simp at hy; subst hy; omega
      have hP := hb.put (i := i) (s := s) (g := g1) hi hs hK5 (fun k hk => by
        rcases List.mem_cons.1 hk with rfl | hk
        · exact .inl rfl
        · simp at hk
          exact .inr (hbl k hk)) hM5 (by rw [HP.out]; exact hN5) (by simp [Value.ownBlock]) hl2 (Nat.lt_of_lt_of_le hg1l hg5.size)
      refine ⟨⟨_, ⟨bm, _, _, _, _, lv, hP, by omega⟩, fun k hk => ?_⟩, hK5.more (fun k hk => ?_)⟩
      · rcases List.mem_cons.1 hk with rfl | hk
        · rcases hl2 with h | ⟨h1, h2⟩
          · exact .inr h
          · exact .inl (h2 ▸ (hb.row i hi h1).2.2.2)
        · exact .inl hk
      · rcases List.mem_cons.1 hk with rfl | hk
        · exact .inl hb.mF
        · simp at hk
          obtain ⟨h1, h2⟩ := hbl k hk
          exact .inl (h2 ▸ (hb.row i hi h1).2.2.2)
    refine hK.out _ _ ⟨(World.cell?_of_block (hg5.block q (by have := hK4.size; have := HB.out.1.lt _ HB.out.1.qF; omega) (fun e => by injection e with e; exact HB.out.1.apart_qm e))).trans hcell, trivial⟩ (fun hHeld => ?_)
    have HD := Lib.hid hD
    clear hK K hM5 hg5 hD
    try simp only [Act.put, List.setIfInBounds_toArray, List.set_cons_zero, List.set_cons_succ]
    refine wpAnyH_done (by kernel_rfl) ?_ _
    go_wp2_with fail
    go_end0
    exact ⟨rfl, HD.out⟩
end Go.Proofs.Ytndmndchbfmppaa
