/-
  Layer 9 (block): the document's disk: Crash, counted, Write, Flush.
-/
import Derived.Test.YtndmndchbfmppaaBlockRef
namespace Go.Proofs.Ytndmndchbfmppaa
open Go.RowKit Go.Deep
attribute [local go_sem] str_size str_append str_toList str_get str_extract
set_option linter.unusedVariables false
set_option linter.unusedSimpArgs false
/-- Which of the waiting writes lasts, as it is worked out. -/
theorem crash_num (keep r M : Nat) : ∃ ex z y p : Nat, pickN keep r M = p ∧ ex < 64 ∧ p ≤ M ∧ (2 : Int) * ((r : Int) % 32) = (ex : Int) ∧ (keep : Int) / 2 ^ ex = (z : Int) ∧ (z : Int).tmod 4 = (y : Int) ∧ wrap64 (y : Int) = (y : Int) ∧ (y : Int).tmod ((M : Int) + 1) = (p : Int) := by
  refine ⟨2 * (r % 32), keep / 2 ^ (2 * (r % 32)), keep / 2 ^ (2 * (r % 32)) % 4, pickN keep r M, rfl, by omega, pickN_le _ _ _, by omega, by simp, ?_, ?_, ?_⟩
  · generalize keep / 2 ^ (2 * (r % 32)) = z
    rw [Int.tmod_eq_emod_of_nonneg (by omega)]; omega
  · generalize keep / 2 ^ (2 * (r % 32)) = z
    unfold wrap64; omega
  · unfold pickN
    generalize keep / 2 ^ (2 * (r % 32)) % 4 = y
    rw [Int.tmod_eq_emod_of_nonneg (by omega)]
    simp
/-- On the way of a crash, or a flush: the first i sectors are done, f of each lasts. -/
structure RunAt (bi bw : Nat) (S : DSt) (f : Nat → Byts) (wv : Nat → Value) (w : World) (i : Nat) (wr : World) : Prop where
  k : Keeps [bi, bw] w wr
  is : wr.rowIs bi 9 S.n (fun j => if j < i then .string (str (f j)) else .string (str (S.is j)))
  wt : wr.rowIs bw 29 S.n (fun j => if j < i then .slice none 0 0 else wv j)
theorem RunAt.skip {bi bw : Nat} {S : DSt} {f : Nat → Byts} {wv : Nat → Value} {w wr : World} {i : Nat} (h : RunAt bi bw S f wv w i wr) (hne : bi ≠ bw) (hf : f i = S.is i) : RunAt bi bw S f wv w (i + 1) (wr.setCell ⟨bw, i, none⟩ (.slice none 0 0)) :=
  ⟨h.k.setCell (.inl (by simp)) _, (h.is.setOther hne _).congr (fun j _ => by
    by_cases e : j = i
    · subst e; rw [if_neg (by omega), if_pos (by omega), hf]
    · by_cases e2 : j < i
      · rw [if_pos e2, if_pos (by omega)]
      · rw [if_neg e2, if_neg (by omega)]), (h.wt.set i _).congr (fun j _ => by
    by_cases e : j = i
    · subst e; rw [if_pos rfl, if_pos (by omega)]
    · rw [if_neg e]
      by_cases e2 : j < i
      · rw [if_pos e2, if_pos (by omega)]
      · rw [if_neg e2, if_neg (by omega)])⟩
theorem RunAt.take {bi bw : Nat} {S : DSt} {f : Nat → Byts} {wv : Nat → Value} {w wr : World} {i : Nat} (h : RunAt bi bw S f wv w i wr) (hne : bi ≠ bw) {s : Byts} (hf : f i = s) : RunAt bi bw S f wv w (i + 1) ((wr.setCell ⟨bi, i, none⟩ (.string (str s))).setCell ⟨bw, i, none⟩ (.slice none 0 0)) :=
  ⟨(h.k.setCell (.inl (by simp)) _).setCell (.inl (by simp)) _, ((h.is.set i _).setOther hne _).congr (fun j _ => by
    by_cases e : j = i
    · subst e; rw [if_pos rfl, if_pos (by omega), hf]
    · rw [if_neg e]
      by_cases e2 : j < i
      · rw [if_pos e2, if_pos (by omega)]
      · rw [if_neg e2, if_neg (by omega)]), ((h.wt.setOther (by exact fun e => hne e.symm) _).set i _).congr (fun j _ => by
    by_cases e : j = i
    · subst e; rw [if_pos rfl, if_pos (by omega)]
    · rw [if_neg e]
      by_cases e2 : j < i
      · rw [if_pos e2, if_pos (by omega)]
      · rw [if_neg e2, if_neg (by omega)])⟩
theorem RunAt.take2 {bi bw : Nat} {S : DSt} {f : Nat → Byts} {wv : Nat → Value} {w wr : World} {i : Nat} (h : RunAt bi bw S f wv w i wr) (hne : bi ≠ bw) {s : Byts} (hf : f i = s) : RunAt bi bw S f wv w (i + 1) ((wr.setCell ⟨bi, i, none⟩ (.string (str s))).drew.setCell ⟨bw, i, none⟩ (.slice none 0 0)) :=
  have h2 := h.take hne hf
  ⟨((h.k.setCell (.inl (by simp)) _).drew).setCell (.inl (by simp)) _, h2.is, h2.wt⟩
/-- All blocks lie apart: what a call leaves of its disk, told by its cells and rows. -/
theorem IsR.remade {F : List Nat} {q : Nat} {S T : DSt} {w w' : World} {bi bw : Nat} {R : List Nat} {wv : Nat → Value} (h : IsR F q S w) (hn : T.n = S.n) (hl : T.left ≤ 9223372036854775807) (hk : T.keep < 18446744073709551616) (hs : w.heap.size ≤ w'.heap.size)
    (hq : w'.heap[q]? = some (.cells #[.slice (some ⟨bi, 0, none⟩) T.n T.n, .slice (some ⟨bw, 0, none⟩) T.n T.n, .bool T.gone, .int .i64 (T.left : Int), .int .u64 (T.keep : Int), .int .i64 (T.calls : Int)] 33 (0, 0)))
    (hi : w'.rowIs bi 9 T.n (fun j => .string (str (T.is j)))) (hw : w'.rowIs bw 29 T.n wv) (hF : q ∈ F ∧ bi ∈ F ∧ bw ∈ F) (hR : ∀ k ∈ R, k ∈ F ∧ k ≠ q ∧ k ≠ bi ∧ k ≠ bw) (hne : q ≠ bi ∧ q ≠ bw ∧ bi ≠ bw) (hW : ∀ j, j < T.n → WaitAt R w' (wv j) (T.wt j)) : IsR F q T w' :=
  ⟨fun k hF => Nat.lt_of_lt_of_le (h.lt k hF) hs, by rw [hn]; exact h.n1, by rw [hn]; exact h.n2, hl, hk, bi, bw, R, wv, hq, hi, hw, hF.1, hF.2.1, hF.2.2, hR, hne.1, hne.2.1, hne.2.2, hW⟩
set_option maxRecDepth 100000 in
set_option maxHeartbeats 2000000 in
theorem refCrash_c (F : List Nat) (q : Nat) (S : DSt) (keep : Nat) (w : World) (h : IsR F q S w) (hk : keep < 18446744073709551616) (hlen : ∀ j, j < S.n → (S.wt j).length ≤ 1000000) :
    Calls Try.prog 26 #[.pointer (some ⟨q, 0, none⟩), .int .u64 keep] w fun e w' => e = .returned (.tuple #[]) ∧ DidR F q (downD S keep) w w' := by
  have n2 := h.n2
  obtain ⟨g, hg⟩ : ∃ g, S.gone = g := ⟨_, rfl⟩
  by_cases hgone : g = true
  · subst hgone
    obtain ⟨a, b, hq⟩ := h.cells
    have c2 := blk_cell hq 2
    simp only [List.getElem?_toArray, List.getElem?_cons_zero, List.getElem?_cons_succ] at c2
    rw [hg] at c2
    have e : downD S keep = S := by unfold downD; rw [if_pos hg]
    rw [e]
    have HD := Lib.hid (DidR.self h)
    clear e hg h hq n2
    go_enter Try.func26, Try.ntmps26
    go_wp2_with fail
    refine bodyPost_ret (results_none rfl _ _ _) rfl ?_
    exact ⟨rfl, HD.out⟩
  obtain rfl : g = false := by simpa using hgone
  have HH := Lib.hid h
  obtain ⟨bi, bw, R, wv, hq, hi, hw, hqF, hiF, hwF, hR, hqi, hqw, hiw, hW⟩ := h.ex
  have hstart : Hid (RunAt bi bw S (fallen keep S.is S.wt) wv w 0 w) := ⟨Keeps.refl _ _, hi.congr (fun j _ => by simp), hw.congr (fun j _ => by simp)⟩
  have HQ := Lib.hid hq
  have c0 := blk_cell hq 0
  have c1 := blk_cell hq 1
  have c2 := blk_cell hq 2
  simp only [List.getElem?_toArray, List.getElem?_cons_zero, List.getElem?_cons_succ] at c0 c1 c2
  rw [hg] at c2
  have HC : Hid (∀ W, Keeps [bi, bw] w W → W.heap[q]? = w.heap[q]?) := fun W hK => hK.same q (lt_of_block hq) (by simp; exact ⟨hqi, hqw⟩)
  obtain ⟨N, hN⟩ : ∃ N, S.n = N := ⟨_, rfl⟩
  have HN := Lib.hid hN
  rw [hN] at c0 c1 n2
  clear hq hi hw h hgone hN
  go_enter Try.func26, Try.ntmps26
  go_wp2_with fail
  go_loopw [4, 5] (fun jv c wr => ∃ i : Nat, i ≤ N ∧ c = .int .i64 i ∧ jv = .int .i64 (rank S.wt i : Nat) ∧ Hid (RunAt bi bw S (fallen keep S.is S.wt) wv w i wr)) (fun _ c _ => N - (intOf c).toNat)
  case atStart => exact ⟨0, Nat.zero_le _, rfl, rfl, hstart.out⟩
  case round =>
    clear c0 c1 c2
    obtain ⟨i, hi, rfl, rfl, HA⟩ := hrel
    have hq := HC.out _ HA.out.k
    rw [HQ.out, HN.out] at hq
    have c0 := blk_cell hq 0
    have c1 := blk_cell hq 1
    simp only [List.getElem?_toArray, List.getElem?_cons_zero, List.getElem?_cons_succ] at c0 c1
    have hrk := rank_le S.wt i
    obtain ⟨r, hr⟩ : ∃ r, rank S.wt i = r := ⟨_, rfl⟩
    rw [hr] at hrk ⊢
    by_cases hlt : i < N
    · have d1 := HA.out.is.cell (i := i) (by rw [HN.out]; exact hlt)
      have f1 := HA.out.is.frozen i
      have d2 := HA.out.wt.cell (i := i) (by rw [HN.out]; exact hlt)
      have f2 := HA.out.wt.frozen i
      rw [if_neg (by omega)] at d1 d2
      obtain ⟨A, cap, e, hT, hA⟩ := hW i (by rw [HN.out]; exact hlt)
      rw [e] at d2
      have hl := hlen i (by rw [HN.out]; exact hlt)
      have hfa : fallen keep S.is S.wt i = if S.wt i = [] then S.is i else keptD keep r (S.is i) (S.wt i) := by unfold fallen; rw [hr]
      have hru : rank S.wt (i + 1) = r + (if S.wt i = [] then 0 else 1) := by show rank S.wt i + _ = _; rw [hr]
      by_cases hemp : S.wt i = []
      · rw [if_pos hemp] at hfa hru
        have HS := Lib.hid (HA.out.skip hiw hfa)
        have HRU := Lib.hid hru
        rw [hemp, List.length_nil] at d2
        clear hfa hru hT hA hl e d1 f1
        go_wp2_with fail
        go_roundw
        case rel => exact ⟨i + 1, by omega, by go_num, by rw [HRU.out]; rfl, HS.out⟩
        case measure => simp [intOf]; omega
      · rw [if_neg hemp] at hfa hru
        have hlp := List.length_pos_iff.2 hemp
        obtain ⟨L, hL⟩ : ∃ L, S.wt i = L := ⟨_, rfl⟩
        rw [hL] at hfa hT d2 hl hlp
        obtain ⟨M, hM⟩ : ∃ M, L.length = M := ⟨_, rfl⟩
        have HRU := Lib.hid hru
        have HM := Lib.hid hM
        rw [hM] at d2 hl hlp
        obtain ⟨ex, z, y, p, hp, hexl, hpM, e1, e2, e3, e5, e4⟩ := crash_num keep r M
        have hf0 : p = 0 → fallen keep S.is S.wt i = S.is i := fun h0 => by rw [hfa]; unfold keptD; rw [hM, hp, if_pos h0]
        have hf1 : ∀ (h0 : p ≠ 0) (h1 : p - 1 < L.length), fallen keep S.is S.wt i = L[p - 1] := fun h0 h1 => by
          rw [hfa]; unfold keptD; rw [hM, hp, if_neg h0, List.getD_eq_getElem?_getD, List.getElem?_eq_getElem h1]; rfl
        have hT2 := hT.keeps HA.out.k (fun ad e => by have := (hR _ (hA ad e)).2; simp; exact this.2)
        clear hru hL e hfa hT hA
        by_cases hp0 : p = 0
        · have HS := Lib.hid (HA.out.skip hiw (hf0 hp0))
          clear hf0 hf1 hT2 d1 f1
          go_wp2_with fail
          go_roundw
          case rel => exact ⟨i + 1, by omega, by go_num, by rw [HRU.out]; rfl, HS.out⟩
          case measure => simp [intOf]; omega
        · obtain ⟨m, hm⟩ : ∃ m, p - 1 = m := ⟨_, rfl⟩
          have m1 : (p : Int) - 1 = (m : Int) := by omega
          have m2 : m < M := by omega
          have hf := hf1 hp0 (by omega)
          simp only [hm] at hf
          obtain ⟨_, ad, rfl, k2, k3⟩ := hT2.2.2 m (by omega)
          obtain ⟨s, hs⟩ : ∃ s, L[m]'(by omega) = s := ⟨_, rfl⟩
          rw [hs] at hf k3
          have HS := Lib.hid (HA.out.take2 hiw hf)
          have s1 : IntKind.i64.wrap ((p : Int) - 1) = (m : Int) := by rw [m1]; exact IntWalk.i64_in _ (by omega)
          have m3 : ¬ (p : Int) = 0 := by omega
          have m4 : (0 : Int) < (p : Int) := by omega
          clear hf0 hf1 hT2 hf hs
          go_wp2_with fail
          go_region
          go_wp2_with fail
          go_roundw
          case rel => exact ⟨i + 1, by omega, by go_num, by rw [HRU.out]; rfl, HS.out⟩
          case measure => simp [intOf]; omega
    · obtain rfl : i = N := by omega
      have f2 := blk_free hq 2
      have f3 := blk_free hq 3
      have c2 := blk_cell hq 2
      have c3 := blk_cell hq 3
      simp only [List.getElem?_toArray, List.getElem?_cons_zero, List.getElem?_cons_succ] at c2 c3
      have hdone : Hid (DidR F q (downD S keep) w ((wr.setCell ⟨q, 2, none⟩ (.bool true)).setCell ⟨q, 3, none⟩ (.int .i64 0))) := by
        have hh := HH.out
        have eN := HN.out
        have eD : downD S keep = { S with is := fallen keep S.is S.wt, wt := fun _ => [], gone := true, left := 0 } := by unfold downD; rw [if_neg (by rw [hg]; simp)]
        have hKq : Keeps [q] wr ((wr.setCell ⟨q, 2, none⟩ (.bool true)).setCell ⟨q, 3, none⟩ (.int .i64 0)) := ((Keeps.refl [q] wr).setCell (.inl (by simp)) _).setCell (.inl (by simp)) _
        have hK3 : Keeps [q, bi, bw] w ((wr.setCell ⟨q, 2, none⟩ (.bool true)).setCell ⟨q, 3, none⟩ (.int .i64 0)) :=
          (HA.out.k.more (G := [q, bi, bw]) (fun f hf => .inl (by simp at hf ⊢; exact .inr hf))).trans hKq (fun g hg => .inl (by simp at hg; simp [hg]))
        have hR3 : IsR F q (downD S keep) ((wr.setCell ⟨q, 2, none⟩ (.bool true)).setCell ⟨q, 3, none⟩ (.int .i64 0)) := by
          refine IsR.remade (bi := bi) (bw := bw) (R := R) (wv := fun _ => .slice none 0 0) hh (by rw [eD]) (by rw [eD]; simp) (by rw [eD]; exact hh.rk) hK3.size ?_ ?_ ?_ ⟨hqF, hiF, hwF⟩ hR ⟨hqi, hqw, hiw⟩ ?_
          · rw [eD]
            simp only [eN]
            simpa using blk_set (blk_set hq 2 (.bool true)) 3 (.int .i64 0)
          · rw [eD]
            refine ((HA.out.is.setOther (by exact fun e => hqi e.symm) _).setOther (by exact fun e => hqi e.symm) _).congr (fun j hj => ?_)
            rw [if_pos (by omega)]
          · rw [eD]
            refine ((HA.out.wt.setOther (by exact fun e => hqw e.symm) _).setOther (by exact fun e => hqw e.symm) _).congr (fun j hj => ?_)
            rw [if_pos (by omega)]
          · rw [eD]
            exact fun j hj => WaitAt.nil _ _
        exact ⟨⟨F, hR3, fun k hk => .inl hk⟩, hK3.more (fun f hf => .inl (by simp at hf; rcases hf with rfl | rfl | rfl <;> assumption))⟩
      clear hr hlt
      go_wp2_with fail
      go_end0
      exact ⟨rfl, hdone.out⟩
set_option maxHeartbeats 2000000 in
theorem refCounted_c (F : List Nat) (q : Nat) (S : DSt) (w : World) (h : IsR F q S w) (hc : S.calls ≤ 1000000) (hlen : ∀ j, j < S.n → (S.wt j).length ≤ 1000000) :
    Calls Try.prog 35 #[.pointer (some ⟨q, 0, none⟩)] w fun e w' => e = .returned (.bool (countD S).1) ∧ DidR F q (countD S).2 w w' := by
  obtain ⟨a, b, hq⟩ := h.cells
  have f3 := blk_free hq 3
  have f5 := blk_free hq 5
  have c3 := blk_cell hq 3
  have c4 := blk_cell hq 4
  have c5 := blk_cell hq 5
  simp only [List.getElem?_toArray, List.getElem?_cons_zero, List.getElem?_cons_succ] at c3 c4 c5
  have rl := h.rl
  have rk := h.rk
  obtain ⟨L, hL⟩ : ∃ L, S.left = L := ⟨_, rfl⟩
  obtain ⟨C, hC⟩ : ∃ C, S.calls = C := ⟨_, rfl⟩
  rw [hL] at c3 rl
  rw [hC] at c5 hc
  by_cases h0 : L = 0
  · subst h0
    have e : countD S = (false, { S with calls := S.calls + 1 }) := by unfold countD; rw [if_pos hL]
    have hK : Keeps [q] w (w.setCell ⟨q, 5, none⟩ (.int .i64 ((C : Int) + 1))) := (Keeps.refl [q] w).setCell (.inl (by simp)) _
    have hR := h.set hq S.gone S.left S.keep (S.calls + 1) h.rl h.rk hK (by rw [hC]; simpa using blk_set hq 5 (.int .i64 ((C : Int) + 1)))
    have HR := Lib.hid (DidR.of h.qF hK hR)
    rw [e]
    clear hR hK hq h e hL hC
    go_enter Try.func35, Try.ntmps35
    go_wp2_with fail
    go_ret
    exact ⟨rfl, HR.out⟩
  · obtain ⟨m, hm⟩ : ∃ m, L - 1 = m := ⟨_, rfl⟩
    have m1 : (L : Int) - 1 = (m : Int) := by omega
    have hK : Keeps [q] w ((w.setCell ⟨q, 5, none⟩ (.int .i64 ((C : Int) + 1))).setCell ⟨q, 3, none⟩ (.int .i64 (m : Int))) := ((Keeps.refl [q] w).setCell (.inl (by simp)) _).setCell (.inl (by simp)) _
    have hR := h.set hq S.gone m S.keep (S.calls + 1) (by omega) h.rk hK (by rw [hC]; simpa using blk_set (blk_set hq 5 (.int .i64 ((C : Int) + 1))) 3 (.int .i64 (m : Int)))
    have hD := DidR.of h.qF hK hR
    have hz : ¬ (L : Int) = 0 := by omega
    by_cases h1 : m = 0
    · have e : countD S = (true, downD { S with calls := S.calls + 1, left := 0 } S.keep) := by unfold countD; rw [if_neg (by omega), if_pos (by omega)]
      have e2 : ({ S with gone := S.gone, left := m, keep := S.keep, calls := S.calls + 1 } : DSt) = { S with calls := S.calls + 1, left := 0 } := by rw [h1]
      rw [e2] at hR hD
      have hR0 : IsR F q { S with calls := S.calls + 1, left := 0 } ((w.setCell ⟨q, 5, none⟩ (.int .i64 ((C : Int) + 1))).setCell ⟨q, 3, none⟩ (.int .i64 0)) := by
        have := hR; rw [h1] at this; exact this
      have hD0 : DidR F q { S with calls := S.calls + 1, left := 0 } w ((w.setCell ⟨q, 5, none⟩ (.int .i64 ((C : Int) + 1))).setCell ⟨q, 3, none⟩ (.int .i64 0)) := by
        have := hD; rw [h1] at this; exact this
      rw [e]
      have HD := Lib.hid (And.intro hD0 h.qF)
      have hCR := Lib.hid (refCrash_c F q _ S.keep _ hR0 rk hlen)
      clear hD hR hK hq h e e2 hL hC hR0 hD0
      go_enter Try.func35, Try.ntmps35
      go_wp2_with (go_at_call 26; refine hCR.out.mono ?_; rintro e w1 ⟨rfl, hd1⟩; dsimp only)
      go_ret
      exact ⟨rfl, hd1.after HD.out.1.2⟩
    · have e : countD S = (false, { S with calls := S.calls + 1, left := S.left - 1 }) := by unfold countD; rw [if_neg (by omega), if_neg (by omega)]
      have e2 : ({ S with gone := S.gone, left := m, keep := S.keep, calls := S.calls + 1 } : DSt) = { S with calls := S.calls + 1, left := S.left - 1 } := by rw [hL, hm]
      rw [e2] at hD
      rw [e]
      have HD := Lib.hid hD
      have m2 : (0 : Int) < (m : Int) := by omega
      clear hD hR hK hq h e e2 hL hC
      go_enter Try.func35, Try.ntmps35
      go_wp2_with fail
      go_ret
      exact ⟨rfl, HD.out⟩
end Go.Proofs.Ytndmndchbfmppaa
