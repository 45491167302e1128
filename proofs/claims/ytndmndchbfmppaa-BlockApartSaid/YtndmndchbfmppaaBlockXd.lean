/-
  Layer 9 (block): the program's disk: count, Write, Read.
-/
import Derived.Test.YtndmndchbfmppaaBlockXc
namespace Go.Proofs.Ytndmndchbfmppaa
open Go.RowKit Go.Deep
attribute [local go_sem] str_size str_append str_toList str_get str_extract
set_option linter.unusedVariables false
set_option linter.unusedSimpArgs false
set_option linter.unusedSectionVars false
theorem bclone_c (l : List UInt8) (w : World) (h : l.length ≤ 281474976710656) : Calls Try.prog 28 #[.string (str l)] w fun e w' => e = .returned (.string (str l)) ∧ Below w.heap.size w w' := by
  go_enter Try.func28, Try.ntmps28
  go_wp2_with fail
  refine (Try.stringslite_Clone (str l) _ (by rw [str_size]; exact h)).mono ?_
  rintro e w' ⟨rfl, hb⟩
  go_wp2_with fail
  go_ret
  exact ⟨rfl, hb⟩
/-- Its cells of how many calls counted, and of the order, may be others. -/
theorem BodyB.counts {F : List Nat} {q bm : Nat} {bk : Nat → Nat} {vs : Nat → Value} {D : DataW Value} {nn lv : Nat} {S : DSt} {w : World} (h : BodyB F q bm bk vs D nn lv S w) (C : Nat) : BodyB F q bm bk vs D nn lv { S with calls := C } (w.setCell ⟨q, 515, none⟩ (.int .i64 (C : Int))) := by
  have hst := (h.st.set 515 (.int .i64 (C : Int))).congr (g := cellsB S.is bm S.n S.gone C lv S.keep) (fun i hi => by
    unfold cellsB
    by_cases e2 : i = 515
    · subst e2; simp
    · rw [if_neg e2]; simp [e2])
  exact h.setq ((Keeps.refl [q] w).setCell (.inl (by simp)) _) S.is S.gone lv S.left S.keep C hst h.il h.rl h.ll h.rk h.lf
theorem BodyB.lefts {F : List Nat} {q bm : Nat} {bk : Nat → Nat} {vs : Nat → Value} {D : DataW Value} {nn lv : Nat} {S : DSt} {w : World} (h : BodyB F q bm bk vs D nn lv S w) (L : Nat) (hL : L ≤ 9223372036854775807) : BodyB F q bm bk vs D nn L { S with left := L } (w.setCell ⟨q, 516, none⟩ (.int .i64 (L : Int))) := by
  have hst := (h.st.set 516 (.int .i64 (L : Int))).congr (g := cellsB S.is bm S.n S.gone S.calls L S.keep) (fun i hi => by
    unfold cellsB
    by_cases e2 : i = 516
    · subst e2; simp
    · rw [if_neg e2]; simp [e2])
  exact h.setq ((Keeps.refl [q] w).setCell (.inl (by simp)) _) S.is S.gone L L S.keep S.calls hst h.il hL hL h.rk (fun _ => rfl)
set_option maxHeartbeats 2000000 in
theorem bCount_c (F : List Nat) (q : Nat) (S : DSt) (w : World) (h : IsBc F q S (S.calls + 1) w) (hg : S.gone = false) (hc : S.calls ≤ 900100) :
    Calls Try.prog 31 #[.pointer (some ⟨q, 0, none⟩)] w fun e w' => e = .returned (.int .i64 (if (countD S).1 = true then 90 else 0)) ∧ DidB F q (countD S).2 w w' := by
  obtain ⟨bm, bk, vs, D, nn, lv, hb, hn⟩ := h
  have hlv := hb.lf hg
  subst hlv
  have cC := hb.cC
  have cL := hb.cL
  have cK := hb.cK
  have f1 := hb.fr 515
  have f2 := hb.fr 516
  have ll := hb.ll
  obtain ⟨L, hL⟩ : ∃ L, S.left = L := ⟨_, rfl⟩
  obtain ⟨C, hC⟩ : ∃ C, S.calls = C := ⟨_, rfl⟩
  have h1 := hb.counts (C + 1)
  rw [hL] at cL h1 ll
  rw [hC] at cC hc hn
  have hX : ∀ k ∈ [q], k ∈ F ∨ w.heap.size ≤ k := fun k hk => .inl (by simp at hk; subst hk; exact hb.qF)
  have hKc : Keeps [q] w (w.setCell ⟨q, 515, none⟩ (.int .i64 ((C : Int) + 1))) := (Keeps.refl [q] w).setCell (.inl (by simp)) _
  have ec : (((C + 1 : Nat)) : Int) = (C : Int) + 1 := by omega
  rw [ec] at h1
  by_cases h0 : L = 0
  · subst h0
    have e : countD S = (false, { S with calls := S.calls + 1 }) := by unfold countD; rw [if_pos hL]
    have hD : DidB F q (countD S).2 w (w.setCell ⟨q, 515, none⟩ (.int .i64 ((C : Int) + 1))) := by
      rw [e]
      exact (DidB.of hX hKc ⟨bm, bk, vs, D, nn, 0, by rw [hC, hL]; exact h1, Nat.le_refl _⟩).to (by show nn ≤ S.calls + 1; omega)
    have e1 : (if (countD S).1 = true then (90 : Int) else 0) = 0 := by rw [e]; rfl
    rw [e1]
    have HD := Lib.hid hD
    clear hD hKc h1 hb e e1 hL hC ec hX
    go_enter Try.func31, Try.ntmps31
    go_wp2_with fail
    go_ret
    exact ⟨rfl, HD.out⟩
  · obtain ⟨m, hm⟩ : ∃ m, L - 1 = m := ⟨_, rfl⟩
    have m1 : (L : Int) - 1 = (m : Int) := by omega
    have hz : ¬ (L : Int) = 0 := by omega
    have h2 := h1.lefts m (by omega)
    have hK2 : Keeps [q] w ((w.setCell ⟨q, 515, none⟩ (.int .i64 ((C : Int) + 1))).setCell ⟨q, 516, none⟩ (.int .i64 (m : Int))) := hKc.setCell (.inl (by simp)) _
    by_cases h1m : m = 0
    · have e : countD S = (true, downD { S with calls := S.calls + 1, left := 0 } S.keep) := by unfold countD; rw [if_neg (by omega), if_pos (by omega)]
      subst h1m
      have e2 : ({ { S with calls := C + 1 } with left := 0 } : DSt) = { S with calls := S.calls + 1, left := 0 } := by rw [hC]
      have hcr := bCrash_any F q { S with calls := S.calls + 1, left := 0 } (C + 1) _ ⟨bm, bk, vs, D, nn, 0, by rw [← e2]; exact h2, hn⟩ (by omega) S.keep hb.rk
      have e1 : (if (countD S).1 = true then (90 : Int) else 0) = 90 := by rw [e]; rfl
      have e3 : (downD { S with calls := S.calls + 1, left := 0 } S.keep).calls = C + 1 := by
        unfold downD
        split <;> (show S.calls + 1 = C + 1; omega)
      rw [e1, e]
      have HCR := Lib.hid (And.intro hcr (And.intro hK2 (And.intro e3 hb.qF)))
      clear hcr hK2 hKc h1 h2 hb e e1 e2 e3 hL hC ec hX
      go_enter Try.func31, Try.ntmps31
      go_wp2_with (go_at_call 21; refine HCR.out.1.mono ?_; rintro e w1 ⟨rfl, hd1⟩; dsimp only)
      go_ret
      refine ⟨rfl, ?_⟩
      have hd2 := hd1.to (by rw [HCR.out.2.2.1]; exact Nat.le_refl _)
      exact hd2.after HCR.out.2.1 (fun k hk => .inl (by simp at hk; subst hk; exact HCR.out.2.2.2)) (fun k hk => .inl hk)
    · have e : countD S = (false, { S with calls := S.calls + 1, left := S.left - 1 }) := by unfold countD; rw [if_neg (by omega), if_neg (by omega)]
      have m2 : (0 : Int) < (m : Int) := by omega
      have hD : DidB F q (countD S).2 w ((w.setCell ⟨q, 515, none⟩ (.int .i64 ((C : Int) + 1))).setCell ⟨q, 516, none⟩ (.int .i64 (m : Int))) := by
        rw [e]
        exact (DidB.of hX hK2 ⟨bm, bk, vs, D, nn, m, by rw [hC, hL, hm]; exact h2, Nat.le_refl _⟩).to (by show nn ≤ S.calls + 1; omega)
      have e1 : (if (countD S).1 = true then (90 : Int) else 0) = 0 := by rw [e]; rfl
      rw [e1]
      have HD := Lib.hid hD
      clear hD hK2 hKc h1 h2 hb e e1 hL hC ec hX
      go_enter Try.func31, Try.ntmps31
      go_wp2_with fail
      go_ret
      exact ⟨rfl, HD.out⟩
theorem checkD_bad {S : DSt} {i : Int} (h : checkD S i ≠ 0) : readD S i = ([], checkD S i) ∧ ∀ s, writeD S i s = (checkD S i, S) := by
  unfold checkD at h ⊢
  unfold readD writeD
  by_cases hg : S.gone = true
  · simp [hg]
  · rw [if_neg hg] at h
    by_cases hi : i < 0 ∨ (S.n : Int) ≤ i
    · simp only [if_neg hg, if_pos hi]
      refine ⟨trivial, fun s => ?_⟩
      rw [if_pos (by rcases hi with h | h; exact .inl h; exact .inr (.inl h))]
    · rw [if_neg hi] at h; exact absurd rfl h
theorem checkD_good {S : DSt} {i : Int} (h : checkD S i = 0) : S.gone = false ∧ 0 ≤ i ∧ i < (S.n : Int) := by
  unfold checkD at h
  by_cases hg : S.gone = true
  · rw [if_pos hg] at h; exact absurd h (by decide)
  · rw [if_neg hg] at h
    by_cases hi : i < 0 ∨ (S.n : Int) ≤ i
    · rw [if_pos hi] at h; exact absurd h (by decide)
    · exact ⟨by simpa using hg, by omega, by omega⟩
theorem checkD_err (S : DSt) (i : Int) : checkD S i = 0 ∨ checkD S i = 90 ∨ checkD S i = 91 := by
  unfold checkD
  split
  · exact .inr (.inl rfl)
  · split
    · exact .inr (.inr rfl)
    · exact .inl rfl
set_option maxHeartbeats 2000000 in
theorem bRead_c (F : List Nat) (q : Nat) (S : DSt) (w : World) (h : IsB F q S w) (hf : Fit S 900000) (i : Int) (h1 : -9223372036854775808 ≤ i) (h2 : i ≤ 9223372036854775807) :
    Calls Try.prog 17 #[.pointer (some ⟨q, 0, none⟩), .int .i64 i] w fun e w' => e = .returned (.tuple #[.string (str (readD S i).1), .int .i64 (readD S i).2]) ∧ Below w.heap.size w w' := by
  have hck := bCheck_c F q S _ w h i h1 h2
  obtain ⟨e0, he0⟩ : ∃ e0, checkD S i = e0 := ⟨_, rfl⟩
  rw [he0] at hck
  have HCK := Lib.hid hck
  clear hck
  by_cases hz : e0 = 0
  · subst hz
    obtain ⟨hg, hi0, hi1⟩ := checkD_good he0
    obtain ⟨k, rfl⟩ : ∃ k : Nat, i = k := ⟨i.toNat, by omega⟩
    have hr : readD S (k : Int) = ((S.wt k).getLastD (S.is k), 0) := by
      unfold readD
      rw [if_neg (by rw [hg]; simp), if_neg (by omega), Int.toNat_natCast]
    rw [hr]
    obtain ⟨bm, bk, vs, D, nn, lv, hb, hn⟩ := h
    have hkn : k < S.n := by omega
    have n2 := hb.n2
    have cM := hb.cM
    have cI := hb.cIs (i := k) (by omega)
    obtain ⟨A, cap, ev, hN, hcap, hbl, hsome⟩ := hb.looked k hkn
    have hlk := hb.mp.look true (e := 29) Try.underlying3 Try.underlying51 (z := .slice none 0 0) (by kernel_rfl) (k : Int) (wf_i64 (by omega) (by omega))
    simp only [if_true, ev, hsome] at hlk
    have hk5 : k < 512 := by omega
    by_cases hw : S.wt k = []
    · have hd : decide (S.wt k ≠ []) = false := by simp [hw]
      rw [hd] at hlk
      have hil := hb.il k
      have er : (S.wt k).getLastD (S.is k) = S.is k := by rw [hw]; rfl
      rw [er]
      obtain ⟨s, hs⟩ : ∃ s, S.is k = s := ⟨_, rfl⟩
      rw [hs] at cI hil ⊢
      have cc := fun W => bclone_c s W (by omega)
      clear hN hb hf hr hd er hw hs ev hsome hbl hg he0
      go_enter Try.func17, Try.ntmps17
      go_wp2_with (first
        | (go_at_call 27; refine HCK.out.mono ?_; rintro e w1 ⟨rfl, rfl⟩)
        | (go_at_call 28; refine (cc _).mono ?_; rintro e w2 ⟨rfl, hb2⟩))
      go_ret2
      exact ⟨rfl, hb2⟩
    · have hd : decide (S.wt k ≠ []) = true := by simp [hw]
      rw [hd] at hlk
      have hne : short (S.wt k) ≠ [] := fun e => hw (short_eq_nil.1 e)
      have hla := bLast_c A _ cap (short (S.wt k)) w hN.is hne (by have := (short_len (S.wt k)).1; omega)
      have er : (S.wt k).getLastD (S.is k) = (short (S.wt k)).getLastD [] := by
        rw [short_last]
        rcases List.eq_nil_or_concat (S.wt k) with e | ⟨m, s, e⟩
        · exact absurd e hw
        · rw [e]; simp
      have hll : ((S.wt k).getLastD (S.is k)).length ≤ 64 := by
        rcases List.eq_nil_or_concat (S.wt k) with e | ⟨m, s, e⟩
        · exact absurd e hw
        · have := hb.wl k s (by rw [e]; simp)
          rw [e]; simpa using this
      rw [er] at hll ⊢
      obtain ⟨s, hs⟩ : ∃ s, (short (S.wt k)).getLastD [] = s := ⟨_, rfl⟩
      rw [hs] at hla hll ⊢
      obtain ⟨M, hM⟩ : ∃ M, (short (S.wt k)).length = M := ⟨_, rfl⟩
      rw [hM] at hla hlk hcap
      have cc := fun W => bclone_c s W (by omega)
      have HLA := Lib.hid hla
      clear hN hb hf hr hd er hw hs ev hsome hbl hg he0 hM hne hla
      go_enter Try.func17, Try.ntmps17
      go_wp2_with (first
        | (go_at_call 27; refine HCK.out.mono ?_; rintro e w1 ⟨rfl, rfl⟩)
        | (go_at_call 29; refine HLA.out.mono ?_; rintro e w1 ⟨rfl, rfl⟩)
        | (go_at_call 28; refine (cc _).mono ?_; rintro e w2 ⟨rfl, hb2⟩))
      go_ret2
      exact ⟨rfl, hb2⟩
  · obtain ⟨hr, -⟩ := checkD_bad (by rw [he0]; exact hz)
    rw [hr, he0]
    have hle := checkD_err S i
    rw [he0] at hle
    have hz2 : (e0 == 0) = false := by rw [beq_eq_false_iff_ne]; exact hz
    clear hr he0 h hf
    go_enter Try.func17, Try.ntmps17
    go_wp2_with (go_at_call 27; refine HCK.out.mono ?_; rintro e w1 ⟨rfl, rfl⟩)
    go_ret2
    exact ⟨rfl, Below.refl _ _⟩
set_option maxHeartbeats 2000000 in
theorem bWrite_c (F : List Nat) (q : Nat) (S : DSt) (w : World) (h : IsB F q S w) (hf : Fit S 900000) (i : Int) (s : Byts) (h1 : -9223372036854775808 ≤ i) (h2 : i ≤ 9223372036854775807) (hs : s.length ≤ 9223372036854775807) :
    Calls Try.prog 19 #[.pointer (some ⟨q, 0, none⟩), .int .i64 i, .string (str s)] w fun e w' => e = .returned (.int .i64 (writeD S i s).1) ∧ DidB F q (writeD S i s).2 w w' := by
  have hck := bCheck_c F q S _ w h i h1 h2
  obtain ⟨e0, he0⟩ : ∃ e0, checkD S i = e0 := ⟨_, rfl⟩
  rw [he0] at hck
  have HCK := Lib.hid hck
  have HD := Lib.hid (DidB.self h)
  clear hck
  by_cases hz : e0 = 0
  · subst hz
    obtain ⟨hg, hi0, hi1⟩ := checkD_good he0
    obtain ⟨k, rfl⟩ : ∃ k : Nat, i = k := ⟨i.toNat, by omega⟩
    by_cases hbig : 64 < s.length
    · have hw : writeD S (k : Int) s = (91, S) := by
        unfold writeD
        rw [if_neg (by rw [hg]; simp), if_pos (.inr (.inr hbig))]
      rw [hw]
      have hb2 : decide ((64 : Int) < (s.length : Int)) = true := decide_eq_true (by omega)
      clear hw h hf hg he0
      go_enter Try.func19, Try.ntmps19
      go_wp2_with (go_at_call 27; refine HCK.out.mono ?_; rintro e w1 ⟨rfl, rfl⟩)
      go_ret
      exact ⟨rfl, HD.out⟩
    · have hw : writeD S (k : Int) s = (if (countD (putD S k s)).1 = true then 90 else 0, (countD (putD S k s)).2) := by
        unfold writeD
        rw [if_neg (by rw [hg]; simp), if_neg (by omega), Int.toNat_natCast]
        split <;> rfl
      rw [hw]
      have hb2 : decide ((64 : Int) < (s.length : Int)) = false := decide_eq_false (by omega)
      have cc := bclone_c s w (by omega)
      have HW : Hid (∀ w2, Below w.heap.size w w2 → Calls Try.prog 30 #[.pointer (some ⟨q, 0, none⟩), .int .i64 (k : Int), .string (str s)] w2 fun e w' => e = .returned (.tuple #[]) ∧ DidBc F q (putD S k s) (S.calls + 1) w w') := by
        intro w2 hb
        have hK : Keeps [] w w2 := Keeps.below hb
        obtain ⟨bm, bk, vs, D, nn, lv, hbd, hn⟩ := h
        refine (bWait_c F q S S.calls w2 ⟨bm, bk, vs, D, nn, lv, hbd.keeps hK (by simp), hn⟩ (by have := hf.1; omega) k (by omega) s (by omega)).mono ?_
        rintro e w' ⟨rfl, ⟨F', hF', h2⟩, hK2⟩
        refine ⟨rfl, ⟨F', hF', fun x hx => ?_⟩, (hK.more (by simp)).trans hK2 (fun g hg => .inl hg)⟩
        rcases h2 x hx with h | h
        · exact .inl h
        · exact .inr (Nat.le_trans hK.size h)
      have hcn : (putD S k s).calls = S.calls := rfl
      have HCN : Hid (∀ w2, DidBc F q (putD S k s) (S.calls + 1) w w2 → Calls Try.prog 31 #[.pointer (some ⟨q, 0, none⟩)] w2 fun e w' => e = .returned (.int .i64 (if (countD (putD S k s)).1 = true then 90 else 0)) ∧ DidB F q (countD (putD S k s)).2 w w') := by
        rintro w2 ⟨⟨F', hF', h3⟩, hK2⟩
        refine (bCount_c F' q (putD S k s) w2 hF' hg (by have := hf.1; rw [hcn]; omega)).mono ?_
        rintro e w' ⟨rfl, hd⟩
        exact ⟨rfl, hd.after hK2 (fun x hx => .inl hx) h3⟩
      obtain ⟨R, hR⟩ : ∃ R : Int, (if (countD (putD S k s)).1 = true then (90 : Int) else 0) = R := ⟨_, rfl⟩
      rw [hR] at HCN ⊢
      have HCC := Lib.hid cc
      clear hw h hf hg he0 cc hcn hR
      go_enter Try.func19, Try.ntmps19
      go_wp2_with (first
        | (go_at_call 27; refine HCK.out.mono ?_; rintro e w1 ⟨rfl, rfl⟩)
        | (go_at_call 28; refine HCC.out.mono ?_; rintro e w2 ⟨rfl, hb3⟩)
        | (go_at_call 30; refine (HW.out _ hb3).mono ?_; rintro e w3 ⟨rfl, hd3⟩)
        | (go_at_call 31; refine (HCN.out _ hd3).mono ?_; rintro e w4 ⟨rfl, hd4⟩))
      go_ret
      exact ⟨rfl, hd4⟩
  · obtain ⟨-, hr⟩ := checkD_bad (by rw [he0]; exact hz)
    rw [hr s, he0]
    have hle := checkD_err S i
    rw [he0] at hle
    have hz2 : (e0 == 0) = false := by rw [beq_eq_false_iff_ne]; exact hz
    clear hr he0 h hf
    go_enter Try.func19, Try.ntmps19
    go_wp2_with (go_at_call 27; refine HCK.out.mono ?_; rintro e w1 ⟨rfl, rfl⟩)
    go_ret
    exact ⟨rfl, HD.out⟩
end Go.Proofs.Ytndmndchbfmppaa
