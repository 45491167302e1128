/-
  Layer 9 (block): the document's disk: New, Read, Cut, Power, Crash.
-/
import Derived.Test.YtndmndchbfmppaaBlockMem
import Derived.Test.YtndmndchbfmppaaHeld
namespace Go.Proofs.Ytndmndchbfmppaa
open Go.RowKit Go.Deep
attribute [local go_sem] str_size str_append str_toList str_get str_extract
set_option linter.unusedVariables false
set_option linter.unusedSimpArgs false
theorem lastD_cons {l : List Byts} {s : Byts} (h : l ≠ []) : l.getLastD s = l[l.length - 1]'(by have := List.length_pos_iff.2 h; omega) := by
  rw [List.getLastD_eq_getLast?, List.getLast?_eq_getElem?, List.getElem?_eq_getElem (by have := List.length_pos_iff.2 h; omega)]; rfl
theorem ret_se9 {a b : List UInt8} {x y : Int} (h : (a, x) = (b, y)) : Ending.returned (.tuple #[.string (str a), .int .i64 x]) = .returned (.tuple #[.string (str b), .int .i64 y]) := by
  injection h with h1 h2; rw [h1, h2]
set_option maxHeartbeats 1000000 in
theorem refRead_c (F : List Nat) (q : Nat) (S : DSt) (i : Int) (w : World) (h : IsR F q S w) (h1 : -9223372036854775808 ≤ i) (h2 : i ≤ 9223372036854775807) (hlen : ∀ j, j < S.n → (S.wt j).length ≤ 1000000) :
    Calls Try.prog 18 #[.pointer (some ⟨q, 0, none⟩), .int .i64 i] w fun e w' => e = .returned (.tuple #[.string (str (readD S i).1), .int .i64 (readD S i).2]) ∧ w = w' := by
  have n1 := h.n1
  have n2 := h.n2
  obtain ⟨bi, bw, R, wv, hq, hi, hw, -, -, -, -, -, -, -, hW⟩ := h.ex
  have c0 := blk_cell hq 0
  have c1 := blk_cell hq 1
  have c2 := blk_cell hq 2
  simp only [List.getElem?_toArray, List.getElem?_cons_zero, List.getElem?_cons_succ] at c0 c1 c2
  obtain ⟨a, b, hr⟩ : ∃ a b, readD S i = (a, b) := ⟨_, _, rfl⟩
  rw [hr]
  obtain ⟨N, hN⟩ : ∃ N, S.n = N := ⟨_, rfl⟩
  obtain ⟨g, hg⟩ : ∃ g, S.gone = g := ⟨_, rfl⟩
  have HR := Lib.hid hr
  rw [hN] at c0 c1 hi hw n1 n2
  rw [hg] at c2
  unfold readD at hr
  rw [hg, hN] at hr
  clear hq h
  by_cases hgone : g = true
  · subst hgone
    rw [if_pos rfl] at hr
    have HR := Lib.hid hr
    clear hr
    go_enter Try.func18, Try.ntmps18
    go_wp2_with fail
    go_ret2
    exact ⟨ret_se9 HR.out, rfl⟩
  obtain rfl : g = false := by simpa using hgone
  rw [if_neg (by simp)] at hr
  by_cases hneg : i < 0
  · rw [if_pos (.inl hneg)] at hr
    have HR := Lib.hid hr
    clear hr hgone
    go_enter Try.func18, Try.ntmps18
    go_wp2_with fail
    go_ret2
    exact ⟨ret_se9 HR.out, rfl⟩
  obtain ⟨k, rfl⟩ : ∃ k : Nat, i = k := ⟨i.toNat, by omega⟩
  by_cases hbig : N ≤ k
  · rw [if_pos (.inr (by omega))] at hr
    have HR := Lib.hid hr
    clear hr hgone
    go_enter Try.func18, Try.ntmps18
    go_wp2_with fail
    go_ret2
    exact ⟨ret_se9 HR.out, rfl⟩
  rw [if_neg (by omega), Int.toNat_natCast] at hr
  have hkN : k < N := by omega
  have d1 := hi.cell hkN
  have d2 := hw.cell hkN
  obtain ⟨A, cap, e, hT, -⟩ := hW k (by omega)
  rw [e] at d2
  have hl := hlen k (by omega)
  obtain ⟨l, hl2⟩ : ∃ l, S.wt k = l := ⟨_, rfl⟩
  obtain ⟨s, hs⟩ : ∃ s, S.is k = s := ⟨_, rfl⟩
  rw [hl2] at d2 hT hr hl
  rw [hs] at d1 hr
  by_cases hemp : l = []
  · subst hemp
    have HR := Lib.hid hr
    clear hr hgone hT hs hl2 hl
    go_enter Try.func18, Try.ntmps18
    go_wp2_with fail
    go_ret2
    exact ⟨ret_se9 HR.out, rfl⟩
  · have hp := List.length_pos_iff.2 hemp
    rw [lastD_cons hemp] at hr
    obtain ⟨m, hm⟩ : ∃ m, l.length - 1 = m := ⟨_, rfl⟩
    simp only [hm] at hr
    obtain ⟨_, ad, rfl, k2, k3⟩ := hT.2.2 m (by omega)
    obtain ⟨M, hM⟩ : ∃ M, l.length = M := ⟨_, rfl⟩
    rw [hM] at d2 hp hl
    have m1 : (M : Int) - 1 = (m : Int) := by omega
    have m2 : m < M := by omega
    have HR := Lib.hid hr
    obtain ⟨t, ht⟩ : ∃ t, l[m]'(by omega) = t := ⟨_, rfl⟩
    rw [ht] at k3 hr
    have HR := Lib.hid hr
    clear hr hgone hT hs hl2 ht e hM
    go_enter Try.func18, Try.ntmps18
    go_wp2_with fail
    go_ret2
    exact ⟨ret_se9 HR.out, rfl⟩
/-- Its own four cells may be others. -/
theorem IsR.set {F : List Nat} {q : Nat} {S : DSt} {w : World} (h : IsR F q S w) {a b c' d' e' f' : Value} (hq : w.heap[q]? = some (.cells #[a, b, c', d', e', f'] 33 (0, 0))) (g : Bool) (l k c : Nat) (hl : l ≤ 9223372036854775807) (hk : k < 18446744073709551616) {w' : World}
    (hK : Keeps [q] w w') (hc : w'.heap[q]? = some (.cells #[a, b, .bool g, .int .i64 (l : Int), .int .u64 (k : Int), .int .i64 (c : Int)] 33 (0, 0))) :
    IsR F q { S with gone := g, left := l, keep := k, calls := c } w' := by
  obtain ⟨bi, bw, R, wv, h1, h2, h3, h4, h5, h6, h7, h8, h9, h10, h11⟩ := h.ex
  have e0 := Option.some.inj (hq.symm.trans h1)
  injection e0 with e0 _
  have e1 := congrArg Array.toList e0
  simp only [List.cons.injEq] at e1
  obtain ⟨rfl, rfl, _⟩ := e1
  exact ⟨fun k hF => Nat.lt_of_lt_of_le (h.lt k hF) hK.size, h.n1, h.n2, hl, hk, bi, bw, R, wv, hc, rowIs_keeps h2 hK (by simpa using fun e => h8 e.symm), rowIs_keeps h3 hK (by simpa using fun e => h9 e.symm), h4, h5, h6, h7, h8, h9, h10,
    fun j hj => (h11 j hj).keeps hK (fun k hkR => by simpa using (h7 k hkR).2.1)⟩
theorem IsR.cells {F : List Nat} {q : Nat} {S : DSt} {w : World} (h : IsR F q S w) : ∃ a b, w.heap[q]? = some (.cells #[a, b, .bool S.gone, .int .i64 (S.left : Int), .int .u64 (S.keep : Int), .int .i64 (S.calls : Int)] 33 (0, 0)) := by
  obtain ⟨bi, bw, R, wv, h1, _⟩ := h.ex
  exact ⟨_, _, h1⟩
theorem IsR.qF {F : List Nat} {q : Nat} {S : DSt} {w : World} (h : IsR F q S w) : q ∈ F := by
  obtain ⟨bi, bw, R, wv, h1, h2, h3, h4, _⟩ := h.ex
  exact h4
theorem DidR.of {F : List Nat} {q : Nat} {S : DSt} {w w' : World} (hq : q ∈ F) (hK : Keeps [q] w w') (h : IsR F q S w') : DidR F q S w w' :=
  ⟨⟨F, h, fun k hk => .inl hk⟩, hK.more (fun k hk => .inl (by simp at hk; subst hk; exact hq))⟩
theorem refPower_c (F : List Nat) (q : Nat) (S : DSt) (w : World) (h : IsR F q S w) :
    Calls Try.prog 16 #[.pointer (some ⟨q, 0, none⟩)] w fun e w' => e = .returned (.tuple #[]) ∧ DidR F q (powerD S) w w' := by
  obtain ⟨a, b, hq⟩ := h.cells
  have f2 := blk_free hq 2
  have f3 := blk_free hq 3
  have c2 := blk_cell hq 2
  have c3 := blk_cell hq 3
  simp only [List.getElem?_toArray, List.getElem?_cons_zero, List.getElem?_cons_succ] at c2 c3
  have hK : Keeps [q] w ((w.setCell ⟨q, 2, none⟩ (.bool false)).setCell ⟨q, 3, none⟩ (.int .i64 0)) := ((Keeps.refl [q] w).setCell (.inl (by simp)) _).setCell (.inl (by simp)) _
  have hR := h.set hq false 0 S.keep S.calls (by omega) h.rk hK (by simpa using blk_set (blk_set hq 2 (.bool false)) 3 (.int .i64 0))
  have HR := Lib.hid (DidR.of h.qF hK hR)
  clear hR hq h hK
  go_enter Try.func16, Try.ntmps16
  go_wp2_with fail
  go_end0
  exact ⟨rfl, HR.out⟩
theorem refCut_c (F : List Nat) (q : Nat) (S : DSt) (n : Int) (keep : Nat) (w : World) (h : IsR F q S w) (h1 : -9223372036854775808 ≤ n) (h2 : n ≤ 9223372036854775807) (hk : keep < 18446744073709551616) :
    Calls Try.prog 25 #[.pointer (some ⟨q, 0, none⟩), .int .i64 n, .int .u64 keep] w fun e w' => e = .returned (.tuple #[]) ∧ DidR F q (cutD S n keep) w w' := by
  obtain ⟨a, b, hq⟩ := h.cells
  have f3 := blk_free hq 3
  have f4 := blk_free hq 4
  have c3 := blk_cell hq 3
  have c4 := blk_cell hq 4
  simp only [List.getElem?_toArray, List.getElem?_cons_zero, List.getElem?_cons_succ] at c3 c4
  obtain ⟨m, hm⟩ : ∃ m, n.toNat = m := ⟨_, rfl⟩
  have d1 : max n 0 = (m : Int) := by omega
  have hK : Keeps [q] w ((w.setCell ⟨q, 3, none⟩ (.int .i64 (m : Int))).setCell ⟨q, 4, none⟩ (.int .u64 (keep : Int))) := ((Keeps.refl [q] w).setCell (.inl (by simp)) _).setCell (.inl (by simp)) _
  have hR := h.set hq S.gone m keep S.calls (by omega) hk hK (by simpa using blk_set (blk_set hq 3 (.int .i64 (m : Int))) 4 (.int .u64 (keep : Int)))
  have e : cutD S n keep = { S with gone := S.gone, left := m, keep := keep, calls := S.calls } := by unfold cutD; rw [hm]
  rw [← e] at hR
  have HR := Lib.hid (DidR.of h.qF hK hR)
  clear hR hq h hK e hm
  go_enter Try.func25, Try.ntmps25
  go_wp2_with fail
  go_end0
  exact ⟨rfl, HR.out⟩
theorem ss_info : (Try.prog.info? 29).map (fun i => (i.zero, i.size, i.bytes)) = some (some (.slice none 0 0), 1, 24) := by kernel_rfl
/-- A disk that is made. -/
def MadeR (S : DSt) (B : Nat) (e : Ending) (w' : World) : Prop := ∃ q F, e = .returned (.pointer (some ⟨q, 0, none⟩)) ∧ IsR F q S w' ∧ ∀ k ∈ F, B ≤ k
theorem IsR.made {n : Int} {N : Nat} (hN : (newD n).n = N) {w' : World} {q bi bw : Nat} (hq : w'.heap[q]? = some (.cells #[.slice (some ⟨bi, 0, none⟩) N N, .slice (some ⟨bw, 0, none⟩) N N, .bool false, .int .i64 0, .int .u64 0, .int .i64 0] 33 (0, 0)))
    (hi : w'.rowIs bi 9 N (fun _ => .string ⟨#[]⟩)) (hw : w'.rowIs bw 29 N (fun _ => .slice none 0 0)) : IsR [q, bi, bw] q (newD n) w' := by
  have h1 : q ≠ bi := by obtain ⟨c, hc, _⟩ := hi; exact blk_apart hq hc (by decide)
  have h2 : q ≠ bw := by obtain ⟨c, hc, _⟩ := hw; exact blk_apart hq hc (by decide)
  have h3 : bi ≠ bw := by obtain ⟨c, hc, _⟩ := hi; obtain ⟨d, hd, _⟩ := hw; exact blk_apart hc hd (by decide)
  subst hN
  refine ⟨fun k hk => ?_, by unfold newD; simp only; omega, by unfold newD; simp only; omega, by unfold newD; simp, by unfold newD; simp, bi, bw, [], fun _ => .slice none 0 0, ?_, ?_, hw, by simp, by simp, by simp, by simp, h1, h2, h3, fun j hj => ?_⟩
  · simp at hk
    rcases hk with rfl | rfl | rfl
    · exact lt_of_block hq
    · exact hi.lt
    · exact hw.lt
  · exact hq
  · exact hi.congr (fun j _ => by rfl)
  · exact WaitAt.nil _ _
set_option maxHeartbeats 1000000 in
theorem refNew_c (n : Int) (w : World) (h1 : -9223372036854775808 ≤ n) (h2 : n ≤ 9223372036854775807) :
    Calls Try.prog 10 #[.int .i64 n] w fun e w' => MadeR (newD n) w.heap.size e w' ∧ Below w.heap.size w w' := by
  obtain ⟨N, hN⟩ : ∃ N, (newD n).n = N := ⟨_, rfl⟩
  have hN2 : max 8 (min n 512) = (N : Int) := by rw [← hN]; unfold newD; simp only; omega
  have n1 : N ≤ 512 := by omega
  have HN := Lib.hid hN
  clear hN
  have m1 := fun W => run_make_row' (P := Try.prog) 29 9 (.string ⟨#[]⟩) 16 Try.underlying29 txt_info rfl .i64 .i64 N (by omega) (by omega) W
  have m2 := fun W => run_make_row' (P := Try.prog) 30 29 (.slice none 0 0) 24 Try.underlying30 ss_info rfl .i64 .i64 N (by omega) (by omega) W
  go_enter Try.func10, Try.ntmps10
  go_wp2_with fail
  refine wp_region_held_drew (S := fun wx => Below w.heap.size w wx) (by kernel_rfl) (Below.refl _ w).drew (fun hHeld => ?_)
  refine wpAnyH_gen (fun Wc hWc => ?_)
  rw [← hWc] at hHeld
  clear hWc
  refine held_w (i := 0) (d := some 7) (v := ?_) rfl (by kernel_rfl) (by kernel_rfl) (by kernel_rfl) (fun _ _ _ h => h) (by rfl) ?_ hHeld ?_
  rotate_left
  · intro w' hSw; obtain ⟨q0⟩ := hSw; simp only [List.getElem?_toArray, List.getElem?_cons_zero, List.getElem?_cons_succ]; go_simp; try with_reducible rfl
  try simp only [Act.put, List.setIfInBounds_toArray, List.set_cons_zero, List.set_cons_succ]
  refine held_w (i := 2) (d := some 9) (v := ?_) rfl (by kernel_rfl) (by kernel_rfl) (by kernel_rfl) (fun _ _ _ h => h) (by rfl) ?_ hHeld ?_
  rotate_left
  · intro w' hSw; obtain ⟨q0⟩ := hSw; simp only [List.getElem?_toArray, List.getElem?_cons_zero, List.getElem?_cons_succ]; go_simp; try with_reducible rfl
  try simp only [Act.put, List.setIfInBounds_toArray, List.set_cons_zero, List.set_cons_succ]
  refine held_many (rs := [1, 3]) (by kernel_rfl) (by simp) ⟨?_, ?_, trivial⟩
  · refine ⟨by rfl, fun K hK => ?_⟩
    simp only [List.getElem?_toArray, List.getElem?_cons_zero, List.getElem?_cons_succ]
    go_simp
    have hA := World.rowIs_made Wc (.string ⟨#[]⟩) N 9
    have hsA : w.heap.size ≤ Wc.heap.size := hHeld.size
    refine hK.out _ _ (hHeld.alloc hHeld.size _) (fun hHeld => ?_)
    clear hK K
    refine wpAnyH_gen (fun W1 hW1 => ?_)
    rw [← hW1] at hHeld hA
    clear hW1
    try simp only [Act.put, List.setIfInBounds_toArray, List.set_cons_zero, List.set_cons_succ]
    refine held_c (i := 3) (by kernel_rfl) (by rfl) (fun K hK => ?_)
    simp only [List.getElem?_toArray, List.getElem?_cons_zero, List.getElem?_cons_succ]
    go_simp
    have hB := World.rowIs_made W1 (.slice none 0 0) N 29
    have hsB : w.heap.size ≤ W1.heap.size := hHeld.size
    have hA := World.rowIs.alloc hA (.cells (madeCells #[.slice none 0 0] N) 29)
    refine hK.out _ _ (hHeld.alloc hHeld.size _) (fun hHeld => ?_)
    clear hK K
    refine wpAnyH_gen (fun W3 hW3 => ?_)
    rw [← hW3] at hHeld hB
    rw [← hW3] at hA
    clear hW3
    try simp only [Act.put, List.setIfInBounds_toArray, List.set_cons_zero, List.set_cons_succ]
    refine held_w (i := 4) (d := some 11) (v := ?_) rfl (by kernel_rfl) (by kernel_rfl) (by kernel_rfl) (fun _ _ _ h => h) (by rfl) ?_ hHeld ?_
    rotate_left
    · intro w' hSw; obtain ⟨q0⟩ := hSw; simp only [List.getElem?_toArray, List.getElem?_cons_zero, List.getElem?_cons_succ]; go_simp; try with_reducible rfl
    try simp only [Act.put, List.setIfInBounds_toArray, List.set_cons_zero, List.set_cons_succ]
    refine held_c (i := 5) (by kernel_rfl) (by rfl) (fun K hK => ?_)
    simp only [List.getElem?_toArray, List.getElem?_cons_zero, List.getElem?_cons_succ]
    go_simp
    have hsQ := hHeld.size
    refine hK.out _ _ (hHeld.alloc hHeld.size _) (fun hHeld => ?_)
    clear hK K
    try simp only [Act.put, List.setIfInBounds_toArray, List.set_cons_zero, List.set_cons_succ]
    refine held_w (i := 6) (d := some 2) (v := ?_) rfl (by kernel_rfl) (by kernel_rfl) (by kernel_rfl) (fun _ _ _ h => h) (by rfl) ?_ hHeld ?_
    rotate_left
    · intro w' hSw; obtain ⟨q0⟩ := hSw; simp only [List.getElem?_toArray, List.getElem?_cons_zero, List.getElem?_cons_succ]; go_simp; try with_reducible rfl
    try simp only [Act.put, List.setIfInBounds_toArray, List.set_cons_zero, List.set_cons_succ]
    refine wpAnyH_done (by kernel_rfl) ?_ _
    go_wp2_with fail
    go_ret
    refine ⟨⟨_, _, rfl, IsR.made HN.out (blk_new _ _) (World.rowIs.alloc hA _) (World.rowIs.alloc hB _), fun k hk => ?_⟩, hHeld⟩
    simp at hk
    omega
  · refine ⟨by rfl, fun K hK => ?_⟩
    simp only [List.getElem?_toArray, List.getElem?_cons_zero, List.getElem?_cons_succ]
    go_simp
    have hB := World.rowIs_made Wc (.slice none 0 0) N 29
    have hsB : w.heap.size ≤ Wc.heap.size := hHeld.size
    refine hK.out _ _ (hHeld.alloc hHeld.size _) (fun hHeld => ?_)
    clear hK K
    refine wpAnyH_gen (fun W3 hW3 => ?_)
    rw [← hW3] at hHeld hB
    clear hW3
    try simp only [Act.put, List.setIfInBounds_toArray, List.set_cons_zero, List.set_cons_succ]
    refine held_c (i := 1) (by kernel_rfl) (by rfl) (fun K hK => ?_)
    simp only [List.getElem?_toArray, List.getElem?_cons_zero, List.getElem?_cons_succ]
    go_simp
    have hA := World.rowIs_made W3 (.string ⟨#[]⟩) N 9
    have hsA : w.heap.size ≤ W3.heap.size := hHeld.size
    have hB := World.rowIs.alloc hB (.cells (madeCells #[.string ⟨#[]⟩] N) 9)
    refine hK.out _ _ (hHeld.alloc hHeld.size _) (fun hHeld => ?_)
    clear hK K
    refine wpAnyH_gen (fun W1 hW1 => ?_)
    rw [← hW1] at hHeld hA
    rw [← hW1] at hB
    clear hW1
    try simp only [Act.put, List.setIfInBounds_toArray, List.set_cons_zero, List.set_cons_succ]
    refine held_w (i := 4) (d := some 11) (v := ?_) rfl (by kernel_rfl) (by kernel_rfl) (by kernel_rfl) (fun _ _ _ h => h) (by rfl) ?_ hHeld ?_
    rotate_left
    · intro w' hSw; obtain ⟨q0⟩ := hSw; simp only [List.getElem?_toArray, List.getElem?_cons_zero, List.getElem?_cons_succ]; go_simp; try with_reducible rfl
    try simp only [Act.put, List.setIfInBounds_toArray, List.set_cons_zero, List.set_cons_succ]
    refine held_c (i := 5) (by kernel_rfl) (by rfl) (fun K hK => ?_)
    simp only [List.getElem?_toArray, List.getElem?_cons_zero, List.getElem?_cons_succ]
    go_simp
    have hsQ := hHeld.size
    refine hK.out _ _ (hHeld.alloc hHeld.size _) (fun hHeld => ?_)
    clear hK K
    try simp only [Act.put, List.setIfInBounds_toArray, List.set_cons_zero, List.set_cons_succ]
    refine held_w (i := 6) (d := some 2) (v := ?_) rfl (by kernel_rfl) (by kernel_rfl) (by kernel_rfl) (fun _ _ _ h => h) (by rfl) ?_ hHeld ?_
    rotate_left
    · intro w' hSw; obtain ⟨q0⟩ := hSw; simp only [List.getElem?_toArray, List.getElem?_cons_zero, List.getElem?_cons_succ]; go_simp; try with_reducible rfl
    try simp only [Act.put, List.setIfInBounds_toArray, List.set_cons_zero, List.set_cons_succ]
    refine wpAnyH_done (by kernel_rfl) ?_ _
    go_wp2_with fail
    go_ret
    refine ⟨⟨_, _, rfl, IsR.made HN.out (blk_new _ _) (World.rowIs.alloc hA _) (World.rowIs.alloc hB _), fun k hk => ?_⟩, hHeld⟩
    simp at hk
    omega
end Go.Proofs.Ytndmndchbfmppaa
