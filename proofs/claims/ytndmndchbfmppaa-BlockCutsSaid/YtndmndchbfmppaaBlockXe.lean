/-
  Layer 9 (block): the program's disk: Flush.
-/
import Derived.Test.YtndmndchbfmppaaBlockXd
namespace Go.Proofs.Ytndmndchbfmppaa
open Go.RowKit Go.Deep
attribute [local go_sem] str_size str_append str_toList str_get str_extract
set_option linter.unusedVariables false
set_option linter.unusedSimpArgs false
set_option linter.unusedSectionVars false
/-- On the way of a flush: those that are no longer left to come last as their last write has it. -/
def flowI (S : DSt) (left : Lit → Bool) (i : Nat) : Byts := if S.wt i ≠ [] ∧ left (.int .i64 (i : Int)) = false then (S.wt i).getLastD (S.is i) else S.is i
def flowD (S : DSt) (left : Lit → Bool) : DSt := { S with is := flowI S left }
theorem last_len {l : List Byts} {s : Byts} (hs : s.length ≤ 64) (hl : ∀ x ∈ l, x.length ≤ 64) : (l.getLastD s).length ≤ 64 := by
  rcases List.eq_nil_or_concat l with rfl | ⟨m, t, rfl⟩
  · exact hs
  · have := hl t (by simp)
    simpa using this
theorem flowI_len {S : DSt} (hs : ∀ j, (S.is j).length ≤ 64) (hl : ∀ j, ∀ x ∈ S.wt j, x.length ≤ 64) (left : Lit → Bool) (i : Nat) : (flowI S left i).length ≤ 64 := by
  unfold flowI
  split
  · exact last_len (hs i) (hl i)
  · exact hs i
theorem Keeps.grows {q : Nat} {w w' : World} (h : Keeps [q] w w') : w.grownBy w' (some q) :=
  ⟨h.os, h.tape, h.output, h.size, fun i hi hne => h.same i hi (by simp; exact fun e => hne (by rw [e]))⟩
theorem BodyB.flowed {F : List Nat} {q bm : Nat} {bk : Nat → Nat} {vs : Nat → Value} {D : DataW Value} {nn lv k : Nat} {S : DSt} {left : Lit → Bool} {w : World} (h : BodyB F q bm bk vs D nn lv (flowD S left) w) (hi : ∀ j, (S.is j).length ≤ 64) (hk : k < 512) (hw : S.wt k ≠ []) {s : Byts} (hs : (short (S.wt k)).getLastD [] = s) :
    BodyB F q bm bk vs D nn lv (flowD S (fun z => left z && !z.sameKey (.int .i64 (k : Int)))) (w.setCell ⟨q, k, none⟩ (.string (str s))) := by
  have hfk : flowI S (fun z => left z && !z.sameKey (.int .i64 (k : Int))) k = s := by
    unfold flowI
    rw [if_pos ⟨hw, by simp [sameI]⟩, ← hs, short_last]
    rcases List.eq_nil_or_concat (S.wt k) with e | ⟨m, t, e⟩
    · exact absurd e hw
    · rw [e]; simp
  have hfo : ∀ i, i ≠ k → flowI S (fun z => left z && !z.sameKey (.int .i64 (k : Int))) i = flowI S left i := fun i hne => by
    have e : (Lit.int .i64 (i : Int)).sameKey (.int .i64 (k : Int)) = false := by rw [sameI]; simp; omega
    unfold flowI
    simp only [e, Bool.not_false, Bool.and_true]
  have hst := (h.st.set k (.string (str s))).congr (g := cellsB (flowI S (fun z => left z && !z.sameKey (.int .i64 (k : Int)))) bm S.n S.gone S.calls lv S.keep) (fun i hi => by
    unfold cellsB
    by_cases e : i = k
    · subst e
      rw [if_pos rfl, if_pos hk, hfk]
    · rw [if_neg e, hfo i e]
      rfl)
  have hK : Keeps [q] w (w.setCell ⟨q, k, none⟩ (.string (str s))) := (Keeps.refl [q] w).setCell (.inl (by simp)) _
  have hl := flowI_len hi h.wl (fun z => left z && !z.sameKey (.int .i64 (k : Int)))
  have e : flowD S (fun z => left z && !z.sameKey (.int .i64 (k : Int))) = { flowD S left with is := flowI S (fun z => left z && !z.sameKey (.int .i64 (k : Int))), gone := S.gone, left := S.left, keep := S.keep, calls := S.calls } := rfl
  rw [e]
  exact h.setq hK _ S.gone lv S.left S.keep S.calls hst hl h.rl h.ll h.rk h.lf
set_option maxRecDepth 100000 in
set_option maxHeartbeats 2000000 in
theorem bFlush_c (F : List Nat) (q : Nat) (S : DSt) (w : World) (h : IsB F q S w) (hf : Fit S 900000) : Calls Try.prog 20 #[.pointer (some ⟨q, 0, none⟩)] w fun e w' => e = .returned (.int .i64 (flushD S).1) ∧ DidB F q (flushD S).2 w w' := by
  have hcalls := hf.1
  obtain ⟨g, hg⟩ : ∃ g, S.gone = g := ⟨_, rfl⟩
  have cG := (show ∃ v, v = S.gone ∧ w.cell? ⟨q, 514, none⟩ = some (.bool v) from by obtain ⟨bm, bk, vs, D, nn, lv, hb, hn⟩ := h; exact ⟨_, rfl, hb.cG⟩)
  obtain ⟨v, hv, cG⟩ := cG
  rw [hg] at hv
  subst hv
  by_cases hgone : v = true
  · subst hgone
    have e : flushD S = (90, S) := by unfold flushD; rw [if_pos hg]
    rw [e]
    have HD := Lib.hid (DidB.self h)
    clear e hg h hf
    go_enter Try.func20, Try.ntmps20
    go_wp2_with fail
    go_ret
    exact ⟨rfl, HD.out⟩
  obtain rfl : v = false := by simpa using hgone
  have hcn := bCount_c F q S w (by obtain ⟨bm, bk, vs, D, nn, lv, hb, hn⟩ := h; exact ⟨bm, bk, vs, D, nn, lv, hb, by omega⟩) hg (by omega)
  obtain ⟨b, hb⟩ : ∃ b, (countD S).1 = b := ⟨_, rfl⟩
  rw [hb] at hcn
  by_cases hbt : b = true
  · subst hbt
    have e : flushD S = (90, (countD S).2) := by unfold flushD; rw [if_neg (by rw [hg]; simp), if_pos hb]
    rw [e]
    rw [if_pos rfl] at hcn
    have HCN := Lib.hid hcn
    clear e hg h hf hcn hb hgone
    go_enter Try.func20, Try.ntmps20
    go_wp2_with (go_at_call 31; refine HCN.out.mono ?_; rintro e w1 ⟨rfl, hd1⟩)
    go_ret
    exact ⟨rfl, hd1⟩
  obtain rfl : b = false := by simpa using hbt
  have e : flushD S = (0, settleD (countD S).2) := by unfold flushD; rw [if_neg (by rw [hg]; simp), if_neg (by rw [hb]; simp)]
  rw [e]
  rw [if_neg (by simp)] at hcn
  have hg1 : (countD S).2.gone = false := by
    unfold countD at hb ⊢
    split at hb
    · rename_i h0; rw [if_pos h0]; exact hg
    · rename_i h0
      rw [if_neg h0]
      split at hb
      · cases hb
      · rename_i h1; rw [if_neg h1]; exact hg
  have hc1 : (countD S).2.calls ≤ 900001 := by
    have := (fit_count hf).1
    exact this
  obtain ⟨T, hT⟩ : ∃ T, (countD S).2 = T := ⟨_, rfl⟩
  rw [hT] at hcn hg1 hc1 ⊢
  have HCN := Lib.hid hcn
  clear e hg h hf hcn hb hgone hbt hT
  go_enter Try.func20, Try.ntmps20
  go_wp2_with (first
    | (go_at_call 31; refine HCN.out.mono ?_; rintro e w1 ⟨rfl, ⟨F', ⟨bm, bk, vs, D, nn, lv, hb, hn⟩, hF'⟩, hK1⟩; have cM := hb.cM; have HB := Lib.hid (And.intro hb (And.intro hn (And.intro hF' hK1))); clear hb hn hF' hK1; dsimp only)
    | (at_range; refine wpList_range_own _ rfl _ 51 rfl 3 29 (Maps.int_keyed Try.underlying3) Try.underlying51 anyI bm nn D rfl HB.out.1.mp ?_; intro w2 hrg hg2 hs2; have HRG := Lib.hid (And.intro hrg (And.intro hg2 hs2)); clear hrg hg2 hs2))
  go_frame
  obtain ⟨r, hr⟩ : ∃ r, w1.heap.size = r := ⟨_, rfl⟩
  rw [hr]
  have hB0 : Hid (BodyB F' q bm bk vs D nn lv (flowD T (Maps.has D)) w2 ∧ Keeps [q, r] w1 w2) := by
    have e : flowD T (Maps.has D) = T := by
      have e2 : flowI T (Maps.has D) = T.is := by
        funext i
        unfold flowI
        split
        · rename_i hi
          have hin : i < T.n := by
            rcases Nat.lt_or_ge i T.n with h | h
            · exact h
            · exact absurd (HB.out.1.out i h) hi.1
          rw [has_getI, (HB.out.1.row i hin hi.1).1] at hi
          exact absurd hi.2 (by simp)
        · rfl
      unfold flowD
      rw [e2]
    rw [e]
    have hk : Keeps [] w1 w2 := (Keeps.refl _ _).grown HRG.out.2.1 (fun k hk => by cases hk)
    exact ⟨HB.out.1.keeps hk (by simp), hk.more (by simp)⟩
  have hR0 : Hid (w2.ranges Try.prog 3 anyI bm r nn D (Maps.has D) (Maps.size D)) := by rw [← hr]; exact HRG.out.1
  have hrq : q ≠ r ∧ bm ≠ r := by
    have h1 := HB.out.1.lt _ HB.out.1.qF
    have h2 := HB.out.1.lt _ HB.out.1.mF
    omega
  have hFr : Hid (∀ k ∈ F', k < r) := fun k hk => by have := HB.out.1.lt k hk; omega
  have hn2 := HB.out.1.n2
  clear cM cG HRG
  go_loopw [4] (fun _ wr => ∃ (left : Lit → Bool) (cnt : Nat), Hid (wr.ranges Try.prog 3 anyI bm r nn D left cnt) ∧ Hid (BodyB F' q bm bk vs D nn lv (flowD T left) wr ∧ Keeps [q, r] w1 wr)) (fun _ wr => wr.rangeLeft bm r)
  case atStart => exact ⟨_, _, hR0, hB0⟩
  case round =>
    obtain ⟨left, cnt, HR, HA⟩ := hrel
    go_wp2_with (first | (at_next; refine wpList_next_i _ rfl (.tmp 19) rfl 3 Try.underlying3 bm r nn D left cnt rfl HR.out ?_ ?_))
    case refine_1 =>
      intro h0 hl0
      obtain ⟨w3, hcl, hM3, hg3⟩ := MapI.clear (t := 51) (e := 29) HA.out.1.mp Try.underlying51 0
      have hcl2 : ∀ ty, (Builtin.clear_ #[51] ty #[.map (some bm)]).run Try.prog wr = .ok (.tuple #[]) w3 := fun ty => hcl
      have cM := HA.out.1.cM
      have hD : DidB F q (settleD T) w w3 := by
        obtain ⟨hb, hn, hF', hK1⟩ := HB.out
        obtain ⟨hBe, hKe⟩ := HA.out
        have hK3 : Keeps [q, bm] wr w3 := (Keeps.refl _ wr).grown hg3 (fun k hk => by left; simp at hk; simp [hk])
        have hKall : Keeps F' w1 w3 := by
          refine (hKe.more (G := F') (fun k hk => ?_)).trans hK3 (fun k hk => .inl ?_)
          · simp at hk
            rcases hk with rfl | rfl
            · exact .inl hb.qF
            · exact .inr (by omega)
          · simp at hk
            rcases hk with rfl | rfl
            · exact hb.qF
            · exact hb.mF
        have hfa : flowI T left = fun i => (T.wt i).getLastD (T.is i) := by
          funext i
          unfold flowI
          split
          · rfl
          · rename_i hni
            have : T.wt i = [] := by
              rcases Classical.em (T.wt i = []) with h | h
              · exact h
              · exact absurd ⟨h, hl0 _⟩ hni
            rw [this]; rfl
        have eD : settleD T = { flowD T left with is := flowI T left, wt := fun _ => [], gone := T.gone, left := T.left, calls := T.calls } := by
          unfold settleD
          rw [← hfa]
          rfl
        have hst : w3.rowIs q 54 518 (cellsB (flowI T left) bm T.n T.gone T.calls lv T.keep) :=
          rowIs_keeps hBe.st ((Keeps.refl [bm] wr).grown hg3 (fun k hk => by left; simp at hk; simp [hk])) (by simpa using hb.apart_qm)
        have hBf : BodyB F' q bm bk vs (.map []) 0 lv (settleD T) w3 := by
          rw [eD]
          exact hBe.cleared hK3 hM3 (flowI T left) T.gone lv T.left T.calls hst (flowI_len hb.il hb.wl left) hb.rl hb.ll hb.lf
        refine ⟨⟨F', ⟨bm, bk, vs, _, 0, lv, hBf, Nat.zero_le _⟩, hF'⟩, hK1.trans hKall hF'⟩
      have HD := Lib.hid hD
      clear hD hcl hM3 hg3 hl0
      go_wp2_with fail
      go_ret
      exact ⟨rfl, HD.out⟩
    case refine_2 =>
      intro s c w' cnt' hsl hlf hgs hrg hlt hgr hsz2 hen
      obtain ⟨k, hk1, rfl, hk2⟩ := HB.out.1.no s (by rw [hgs]; rfl)
      have hKr : Keeps [r] wr w' := (Keeps.refl [r] wr).grown hgr (fun k hk => by left; simp at hk; simp [hk])
      have hB' : BodyB F' q bm bk vs D nn lv (flowD T left) w' := HA.out.1.keeps hKr (fun k hk => by have := hFr.out k hk; simp; omega)
      have hK' : Keeps [q, r] w1 w' := HA.out.2.trans hKr (fun g hg => .inl (by simp at hg; simp [hg]))
      obtain ⟨a1, a2, a3, a4⟩ := hB'.row k hk1 hk2
      obtain rfl : c = vs k := by rw [hgs] at a1; exact Option.some.inj a1
      obtain ⟨cap, cur, ev, -⟩ := hB'.bkBlk hk1 hk2
      have hwt : (flowD T left).wt k = T.wt k := rfl
      rw [ev] at a2 hen ⊢
      rw [hwt] at a2 hen ⊢
      have hne : short (T.wt k) ≠ [] := fun e => hk2 (short_eq_nil.1 e)
      have hl4 := (short_len (T.wt k)).1
      have hla := bLast_c _ _ cap (short (T.wt k)) w'.drew (show TsAt w'.drew _ _ _ _ from a2.is) hne (by omega)
      have hk5 : k < 512 := by omega
      obtain ⟨t, ht⟩ : ∃ t, (short (T.wt k)).getLastD [] = t := ⟨_, rfl⟩
      have hB2 := hB'.flowed HB.out.1.il hk5 hk2 ht
      have fk := hB'.fr k
      have ck := hB'.cIs hk5
      rw [ht] at hla
      obtain ⟨M, hM⟩ : ∃ M, (short (T.wt k)).length = M := ⟨_, rfl⟩
      rw [hM] at hla hen hl4 ⊢
      have hKs : Keeps [q] w' (w'.setCell ⟨q, k, none⟩ (.string (str t))) := (Keeps.refl [q] w').setCell (.inl (by simp)) _
      have hrg2 := hrg.kept hKs.grows (by simpa using hB'.apart_qm.symm) (by simpa using hrq.1.symm)
      have hmeas0 := HR.out.left_eq
      have HN := Lib.hid (And.intro hB2 (And.intro hrg2 (And.intro hmeas0 (hK'.trans hKs (fun g hg => .inl (by simp at hg; simp [hg]))))))
      have HLA := Lib.hid hla
      clear hsz2 hgr hgs hlf hrg hsl hB' hK' hKr a1 a2 a3 a4 ev hwt hne hla ht hM hKs hrg2 hmeas0 hB2 hk2 hB0 hR0
      go_wp2_with fail
      go_region_with (first
        | (go_at_call 29; refine HLA.out.mono ?_; rintro e w4 ⟨rfl, rfl⟩))
      go_roundw
      case rel =>
        have HREL : ∃ (left : Lit → Bool) (cnt : Nat), Hid ((w'.setCell ⟨q, k, none⟩ (.string (str t))).drew.ranges Try.prog 3 anyI bm r nn D left cnt) ∧ Hid (BodyB F' q bm bk vs D nn lv (flowD T left) (w'.setCell ⟨q, k, none⟩ (.string (str t))).drew ∧ Keeps [q, r] w1 (w'.setCell ⟨q, k, none⟩ (.string (str t))).drew) :=
          ⟨fun z => left z && !z.sameKey (.int .i64 (k : Int)), cnt', HN.out.2.1, HN.out.1.keeps (G := []) (Keeps.refl _ _).drew (by simp), HN.out.2.2.2.drew⟩
        repeat apply Exists.intro
        refine ⟨?rel2, rfl⟩
        exact HREL
      case measure =>
        have e : (w'.setCell ⟨q, k, none⟩ (.string (str t))).drew.rangeLeft bm r = cnt' := HN.out.2.1.left_eq
        rw [HN.out.2.2.1]
        first | (rw [e]; exact hlt) | (simp only [e]; exact hlt)
end Go.Proofs.Ytndmndchbfmppaa
