/-
  Layer 9 (block): the document's disk: Write, Flush.
-/
import Derived.Test.YtndmndchbfmppaaBlockRefC
import Derived.Deep.RegionLaw
namespace Go.Proofs.Ytndmndchbfmppaa
open Go.RowKit Go.Deep
attribute [local go_sem] str_size str_append str_toList str_get str_extract
set_option linter.unusedVariables false
set_option linter.unusedSimpArgs false
theorem grown_drew9 {w w' : World} {r : Option Nat} (h : w.drew.grownBy w' r) : w.grownBy w' r := ⟨h.os, h.tape, h.output, h.size, h.block⟩
set_option maxRecDepth 100000 in
set_option maxHeartbeats 2000000 in
theorem refWrite_c (F : List Nat) (q : Nat) (S : DSt) (i : Int) (s : Byts) (w : World) (h : IsR F q S w) (h1 : -9223372036854775808 ≤ i) (h2 : i ≤ 9223372036854775807) (hs : s.length ≤ 9223372036854775807) (hc : S.calls ≤ 1000000) (hlen : ∀ j, j < S.n → (S.wt j).length ≤ 900000) :
    Calls Try.prog 23 #[.pointer (some ⟨q, 0, none⟩), .int .i64 i, .string (str s)] w fun e w' => e = .returned (.int .i64 (writeD S i s).1) ∧ DidR F q (writeD S i s).2 w w' := by
  have n1 := h.n1
  have n2 := h.n2
  have HH := Lib.hid h
  obtain ⟨bi, bw, R, wv, hx⟩ := h.ex
  have HX := Lib.hid hx
  obtain ⟨hq, hi, hw, hqF, hiF, hwF, -, -, -, -, hW⟩ := hx
  have c0 := blk_cell hq 0
  have c1 := blk_cell hq 1
  have c2 := blk_cell hq 2
  simp only [List.getElem?_toArray, List.getElem?_cons_zero, List.getElem?_cons_succ] at c0 c1 c2
  obtain ⟨g, hg⟩ : ∃ g, S.gone = g := ⟨_, rfl⟩
  obtain ⟨N, hN⟩ : ∃ N, S.n = N := ⟨_, rfl⟩
  have HN := Lib.hid hN
  rw [hN] at c0 c1 n1 n2
  rw [hg] at c2
  have hqlt := lt_of_block hq
  by_cases hgone : g = true
  · subst hgone
    have e : writeD S i s = (90, S) := by unfold writeD; rw [if_pos hg]
    rw [e]
    have HD := Lib.hid (DidR.self h)
    clear e h hq hi hw hg hN
    go_enter Try.func23, Try.ntmps23
    go_wp2_with fail
    go_ret
    exact ⟨rfl, HD.out⟩
  obtain rfl : g = false := by simpa using hgone
  have hgn : ¬ S.gone = true := by rw [hg]; simp
  by_cases hneg : i < 0
  · have e : writeD S i s = (91, S) := by unfold writeD; rw [if_neg hgn, if_pos (.inl hneg)]
    rw [e]
    have HD := Lib.hid (DidR.self h)
    clear e h hq hi hw hg hN hgone hgn
    go_enter Try.func23, Try.ntmps23
    go_wp2_with fail
    go_ret
    exact ⟨rfl, HD.out⟩
  obtain ⟨k, rfl⟩ : ∃ k : Nat, i = k := ⟨i.toNat, by omega⟩
  by_cases hbig : N ≤ k
  · have e : writeD S (k : Int) s = (91, S) := by unfold writeD; rw [if_neg hgn, if_pos (.inr (.inl (by omega)))]
    rw [e]
    have HD := Lib.hid (DidR.self h)
    clear e h hq hi hw hg hN hgone hgn
    go_enter Try.func23, Try.ntmps23
    go_wp2_with fail
    go_ret
    exact ⟨rfl, HD.out⟩
  by_cases hlong : (64 : Int) < s.length
  · have e : writeD S (k : Int) s = (91, S) := by unfold writeD; rw [if_neg hgn, if_pos (.inr (.inr (by omega)))]
    rw [e]
    have HD := Lib.hid (DidR.self h)
    clear e h hq hi hw hg hN hgone hgn
    go_enter Try.func23, Try.ntmps23
    go_wp2_with fail
    go_ret
    exact ⟨rfl, HD.out⟩
  have e : writeD S (k : Int) s = ((if (countD (putD S k s)).1 = true then 90 else 0), (countD (putD S k s)).2) := by
    unfold writeD; rw [if_neg hgn, if_neg (by omega), Int.toNat_natCast]; split <;> rfl
  obtain ⟨b, hb⟩ : ∃ b, (countD (putD S k s)).1 = b := ⟨_, rfl⟩
  have HB := Lib.hid hb
  rw [e, hb]
  clear hb
  have hkN : k < N := by omega
  have d2 := hw.cell (i := k) (by omega)
  have f2 := hw.frozen k
  obtain ⟨A, cap, ev, hT, -⟩ := hW k (by omega)
  rw [ev] at d2
  have hl := hlen k (by omega)
  have hpu : putD S k s = { S with wt := updW S.wt k (S.wt k ++ [s]) } := rfl
  obtain ⟨l, hl2⟩ : ∃ l, S.wt k = l := ⟨_, rfl⟩
  rw [hl2] at d2 hT hl hpu
  have hbwlt : bw < w.heap.size := h.lt bw hwF
  have HC := Lib.hid (fun W (hW : Below w.heap.size w W) => And.intro ((hW.cell (p := ⟨q, 1, none⟩) hqlt).trans c1) (And.intro ((hW.cell (p := ⟨bw, k, none⟩) hbwlt).trans d2) ((hW.frozen (p := ⟨bw, k, none⟩) hbwlt).trans f2)))
  have HT := Lib.hid hT
  have HPU := Lib.hid hpu
  obtain ⟨i0, hi0, hz0, hz1, hz2⟩ := info_parts txt_info
  clear e h hq hi hw hgone hgn hT ev hl2 hpu hN
  go_enter Try.func23, Try.ntmps23
  go_wp2_with (at_builtin; refine app_txts rfl (.tmp 29) (.tmp 36) rfl rfl (NewT.empty w w.heap.size (Nat.le_refl _)) A l.length cap l rfl (HT.out.below ((Below.refl _ w).alloc (Nat.le_refl _) _)) (by simp; omega) (by simp) ?c1)
  case c1 =>
    intro A3 cap3 w3 L HL hN3 hb3
    have hb4 : Below w.heap.size w w3 := ((Below.refl _ w).alloc (Nat.le_refl _) _).trans hb3
    have hLl : L.length ≤ 900000 := by have : L = l := HL.out; rw [this]; exact hl
    obtain ⟨x1, x2, x3⟩ := HC.out _ hb4
    have HN3 := Lib.hid hN3
    have hb4s := hb4.size
    have hq3 : q < w3.heap.size := Nat.lt_of_lt_of_le hqlt hb4s
    have hbw3 : bw < w3.heap.size := Nat.lt_of_lt_of_le hbwlt hb4s
    clear hN3 c0 c1 c2 d2 f2
    go_wp2_with fail
    go_region_law (first
      | (refine step_app (by rfl) (.tmp 43) (.tmp 45) 29 (by rfl) w.heap.size 9 i0 (.string ⟨#[]⟩) 1 16 Try.underlying29 hi0 hz0 hz1 hz2 rfl (by decide) (.slice A3 L.length cap3) L.length _ (by rfl) (HN3.out.own.alloc _) ⟨w3.heap.size, 0, none⟩ 1 1 [.string (str s)] (by rfl) rfl (cell_one_new _ _ _) (by intro u hu; simp at hu; subst hu; rfl) (by unfold maxLen; omega) (by omega) (by simp; omega) ?_
         intro A4 c4 w4 o1 o2 o3
         have o2' : World.grownBy (w3.alloc (.cells #[.string (str s)] 9)) w4 (Value.slice A3 L.length cap3).ownBlock := by first | exact o2 | exact grown_drew9 o2 | exact grown_drew9 (grown_drew9 o2)
         have hb5 : Below w.heap.size w w4 := (hb4.alloc hb4s (.cells #[.string (str s)] 9)).grown o2' (by simp; omega) (fun k hk => (HN3.out.own.lt k hk).1)
         obtain ⟨y1, y2, y3⟩ := HC.out _ hb5
         have HN4 : Hid (NewT w.heap.size (.slice A4 (L.length + 1) c4) (L ++ [s]) w4) := ⟨by rw [txtC_append, List.length_append]; exact o1, fun x hx => by
           rcases List.mem_append.1 hx with hx | hx
           · exact HN3.out.rng x hx
           · simp at hx; subst hx; exact hs⟩
         obtain ⟨g4, eg, hg4, hg5⟩ := NewT.block HN4.out (by simp)
         subst eg
         clear o1 o2 o3 o2'))
    all_goals
      have hcalls : (putD S k s).calls ≤ 1000000 := hc
      have hlens : ∀ j, j < (putD S k s).n → ((putD S k s).wt j).length ≤ 1000000 := fun j hj => by
        have h0 := hlen j hj
        show (updW S.wt k (S.wt k ++ [s]) j).length ≤ _
        unfold updW
        split
        · rename_i e; subst e; rw [List.length_append]; simp; omega
        · omega
      have HPL := Lib.hid (And.intro hcalls hlens)
      clear hcalls hlens
      have HP : Hid (putD S k s = { S with wt := updW S.wt k (L ++ [s]) }) := by show _ = _; rw [HPU.out, HL.out]
      have hLs : (L ++ [s]).length = L.length + 1 := by simp
      have hT4 : TsAt w4 (some ⟨g4, 0, none⟩) (L.length + 1) c4 (L ++ [s]) := by
        have := NewT.is (show NewT w.heap.size (.slice (some ⟨g4, 0, none⟩) (L ++ [s]).length c4) (L ++ [s]) w4 by rw [hLs]; exact HN4.out)
        rw [hLs] at this
        exact this
      have HT4 := Lib.hid (And.intro hT4 hLs)
      clear hT4 hLs
      go_wp2_with fail
      refine (refCounted_c (g4 :: F) q (putD S k s) _ (by rw [HP.out]; exact IsR.put HH.out HX.out hb5 HT4.out.2.symm (by rw [HN.out]; exact hkN) (by have := HT4.out.1; rw [← HT4.out.2] at this; exact this) hg5 hg4 rfl) HPL.out.1 HPL.out.2).mono ?_
      rintro e w6 ⟨rfl, hd⟩
      have hd2 : DidR F q (countD (putD S k s)).2 w w6 := hd.since (by
        first
        | exact (Keeps.below (F := F) hb5).setCell (.inl hwF) _
        | exact ((Keeps.below (F := F) hb5).setCell (.inl hwF) _).drew) (fun k hk => by
          rcases List.mem_cons.1 hk with rfl | hk
          · exact .inr hg4
          · exact .inl hk)
      have HD := Lib.hid hd2
      clear hd hd2
      rw [HB.out]
      cases b with
      | true =>
        go_wp2_with fail
        go_ret
        exact ⟨rfl, HD.out⟩
      | false =>
        go_wp2_with fail
        go_ret
        exact ⟨rfl, HD.out⟩
theorem countD_same {S : DSt} (h : (countD S).1 = false) : (countD S).2.n = S.n ∧ (countD S).2.is = S.is ∧ (countD S).2.wt = S.wt ∧ (countD S).2.gone = S.gone := by
  unfold countD at *
  split
  · exact ⟨rfl, rfl, rfl, rfl⟩
  · split
    · rename_i h1 h2; rw [if_neg h1, if_pos h2] at h; simp at h
    · exact ⟨rfl, rfl, rfl, rfl⟩
set_option maxRecDepth 100000 in
set_option maxHeartbeats 2000000 in
theorem refFlush_c (F : List Nat) (q : Nat) (S : DSt) (w : World) (h : IsR F q S w) (hc : S.calls ≤ 1000000) (hlen : ∀ j, j < S.n → (S.wt j).length ≤ 900000) :
    Calls Try.prog 24 #[.pointer (some ⟨q, 0, none⟩)] w fun e w' => e = .returned (.int .i64 (flushD S).1) ∧ DidR F q (flushD S).2 w w' := by
  obtain ⟨a, b, hq⟩ := h.cells
  have c2 := blk_cell hq 2
  simp only [List.getElem?_toArray, List.getElem?_cons_zero, List.getElem?_cons_succ] at c2
  obtain ⟨g, hg⟩ : ∃ g, S.gone = g := ⟨_, rfl⟩
  rw [hg] at c2
  by_cases hgone : g = true
  · subst hgone
    have e : flushD S = (90, S) := by unfold flushD; rw [if_pos hg]
    rw [e]
    have HD := Lib.hid (DidR.self h)
    clear e h hg hq
    go_enter Try.func24, Try.ntmps24
    go_wp2_with fail
    go_ret
    exact ⟨rfl, HD.out⟩
  obtain rfl : g = false := by simpa using hgone
  have hgn : ¬ S.gone = true := by rw [hg]; simp
  have hcr := refCounted_c F q S w h hc (fun j hj => by have := hlen j hj; omega)
  obtain ⟨c, hcc⟩ : ∃ c, (countD S).1 = c := ⟨_, rfl⟩
  rw [hcc] at hcr
  cases c with
  | true =>
    have e : flushD S = (90, (countD S).2) := by unfold flushD; rw [if_neg hgn, if_pos hcc]
    rw [e]
    have HCR := Lib.hid hcr
    clear e h hg hq hgn hcr hcc hgone
    go_enter Try.func24, Try.ntmps24
    go_wp2_with (go_at_call 35; refine HCR.out.mono ?_; rintro e w1 ⟨rfl, hd⟩; dsimp only)
    go_ret
    exact ⟨rfl, hd⟩
  | false =>
    have e : flushD S = (0, settleD (countD S).2) := by unfold flushD; rw [if_neg hgn, if_neg (by rw [hcc]; simp)]
    rw [e]
    obtain ⟨s1, s2, s3, s4⟩ := countD_same hcc
    have hlen1 : ∀ j, j < (countD S).2.n → ((countD S).2.wt j).length ≤ 900000 := fun j hj => by rw [s3]; exact hlen j (by rw [← s1]; exact hj)
    obtain ⟨T, hT⟩ : ∃ T, (countD S).2 = T := ⟨_, rfl⟩
    rw [hT] at hcr hlen1 ⊢
    have HCR := Lib.hid hcr
    clear e h hg hq hgn hcr hcc hgone s1 s2 s3 s4 hlen hT
    go_enter Try.func24, Try.ntmps24
    go_wp2_with (go_at_call 35; refine HCR.out.mono ?_; rintro e w1 ⟨rfl, hd⟩; have HD := Lib.hid hd; clear hd; dsimp only)
    obtain ⟨⟨F1, hI, hF1⟩, hK1⟩ := HD.out
    have HI := Lib.hid hI
    have n2 := hI.n2
    obtain ⟨bi, bw, R, wv, hx⟩ := hI.ex
    obtain ⟨hq, hi, hw, hqF, hiF, hwF, hR, hqi, hqw, hiw, hW⟩ := hx
    have hstart : Hid (RunAt bi bw T (fun j => (T.wt j).getLastD (T.is j)) wv w1 0 w1) := ⟨Keeps.refl _ _, hi.congr (fun j _ => by simp), hw.congr (fun j _ => by simp)⟩
    have HQ := Lib.hid hq
    have HCq : Hid (∀ W, Keeps [bi, bw] w1 W → W.heap[q]? = w1.heap[q]?) := fun W hK => hK.same q (lt_of_block hq) (by simp; exact ⟨hqi, hqw⟩)
    obtain ⟨N, hN⟩ : ∃ N, T.n = N := ⟨_, rfl⟩
    have HN := Lib.hid hN
    have HK1 := Lib.hid (And.intro hF1 hK1)
    rw [hN] at n2
    clear hq hi hw hI hN hF1 hK1
    go_loopw [3] (fun c wr => ∃ i : Nat, i ≤ N ∧ c = .int .i64 i ∧ Hid (RunAt bi bw T (fun j => (T.wt j).getLastD (T.is j)) wv w1 i wr)) (fun c _ => N - (intOf c).toNat)
    case atStart => exact ⟨0, Nat.zero_le _, rfl, hstart.out⟩
    case round =>
      obtain ⟨i, hi, rfl, HA⟩ := hrel
      have hq := HCq.out _ HA.out.k
      rw [HQ.out, HN.out] at hq
      have c0 := blk_cell hq 0
      have c1 := blk_cell hq 1
      simp only [List.getElem?_toArray, List.getElem?_cons_zero, List.getElem?_cons_succ] at c0 c1
      by_cases hlt : i < N
      · have d1 := HA.out.is.cell (i := i) (by rw [HN.out]; exact hlt)
        have f1 := HA.out.is.frozen i
        have d2 := HA.out.wt.cell (i := i) (by rw [HN.out]; exact hlt)
        have f2 := HA.out.wt.frozen i
        rw [if_neg (by omega)] at d1 d2
        obtain ⟨A, cap, e, hT, hA⟩ := hW i (by rw [HN.out]; exact hlt)
        rw [e] at d2
        have hl := hlen1 i (by rw [HN.out]; exact hlt)
        by_cases hemp : T.wt i = []
        · have HS := Lib.hid (HA.out.skip hiw (by simp only [hemp]; rfl))
          rw [hemp, List.length_nil] at d2
          clear hT hA hl e d1 f1 hq
          go_wp2_with fail
          go_roundw
          case rel => exact ⟨i + 1, by omega, by go_num, HS.out⟩
          case measure => simp [intOf]; omega
        · have hlp := List.length_pos_iff.2 hemp
          have hla := lastD_cons (s := T.is i) hemp
          have hT2 := hT.keeps HA.out.k (fun ad e => by have := (hR _ (hA ad e)).2; simp; exact this.2)
          obtain ⟨L, hL⟩ : ∃ L, T.wt i = L := ⟨_, rfl⟩
          simp only [hL] at hla hT2 d2 hl hlp
          obtain ⟨m, hm⟩ : ∃ m, L.length - 1 = m := ⟨_, rfl⟩
          simp only [hm] at hla
          obtain ⟨_, ad, rfl, k2, k3⟩ := hT2.2.2 m (by omega)
          obtain ⟨s, hs⟩ : ∃ s, L[m]'(by omega) = s := ⟨_, rfl⟩
          rw [hs] at hla k3
          have HS := Lib.hid (HA.out.take2 hiw (s := s) (by show (T.wt i).getLastD (T.is i) = s; rw [hL]; exact hla))
          obtain ⟨M, hM⟩ : ∃ M, L.length = M := ⟨_, rfl⟩
          have HM := Lib.hid hM
          rw [hM] at d2 hl hlp hm
          have m1 : (M : Int) - 1 = (m : Int) := by omega
          have s1 : IntKind.i64.wrap ((M : Int) - 1) = (m : Int) := by rw [m1]; exact IntWalk.i64_in _ (by omega)
          have m2 : m < M := by omega
          clear hT hT2 hA e hla hs hL hM hemp hq
          go_wp2_with fail
          go_region
          go_wp2_with fail
          go_roundw
          case rel => exact ⟨i + 1, by omega, by go_num, HS.out⟩
          case measure => simp [intOf]; omega
      · obtain rfl : i = N := by omega
        have hdone : Hid (DidR F q (settleD T) w wr) := by
          have eN := HN.out
          have hR3 : IsR F1 q (settleD T) wr := by
            refine IsR.remade (bi := bi) (bw := bw) (R := R) (wv := fun _ => .slice none 0 0) HI.out rfl HI.out.rl HI.out.rk HA.out.k.size ?_ ?_ ?_ ⟨hqF, hiF, hwF⟩ hR ⟨hqi, hqw, hiw⟩ ?_
            · unfold settleD
              simp only [eN]
              exact hq
            · exact HA.out.is.congr (fun j hj => by rw [if_pos (by omega)]; rfl)
            · exact HA.out.wt.congr (fun j hj => by rw [if_pos (by omega)])
            · exact fun j hj => WaitAt.nil _ _
          have hD1 : DidR F1 q (settleD T) w1 wr := ⟨⟨F1, hR3, fun k hk => .inl hk⟩, HA.out.k.more (fun f hf => .inl (by simp at hf; rcases hf with rfl | rfl <;> assumption))⟩
          exact hD1.since HK1.out.2 HK1.out.1
        clear hlt hq
        go_wp2_with fail
        go_ret
        exact ⟨rfl, hdone.out⟩
end Go.Proofs.Ytndmndchbfmppaa
