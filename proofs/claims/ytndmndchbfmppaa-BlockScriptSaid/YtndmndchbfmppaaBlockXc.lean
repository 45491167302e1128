/-
  Layer 9 (block): the program's disk: Crash, count.
-/
import Derived.Test.YtndmndchbfmppaaBlockXb
import Derived.Test.YtndmndchbfmppaaBlockRefC
import Derived.Test.YtndmndchbfmppaaIter
namespace Go.Proofs.Ytndmndchbfmppaa
open Go.RowKit Go.Deep
attribute [local go_sem] str_size str_append str_toList str_get str_extract
set_option linter.unusedVariables false
set_option linter.unusedSimpArgs false
set_option linter.unusedSectionVars false
theorem keys33_c (mb : Option Nat) (w : World) : Calls Try.prog 33 #[.map mb] w fun e w' => e = .returned (.func (.func 39) #[] #[.pointer (some ⟨w.heap.size, 0, none⟩)]) ∧ w' = w.alloc (.cells #[.map mb] 51) :=
  callsIn_wide.1 (AnyZI.keys_in Try.keysA Fence.wide 5 trivial rfl mb w)
theorem sortsI (m : Nat) : AnyZI.SortsIn Try.prog Try.sortedA_ren Fence.wide m :=
  ⟨fun blk off cap ss W hH hblk hsz => callsIn_wide.2 (Try.slices_Sort_int blk off cap ss W hH hblk hsz),
   fun p cap W => callsIn_wide.2 (Try.slices_Sort_int_none p cap W)⟩
/-- A row of integers of the call's own. -/
def KeysAt (B : Nat) (v : Value) (K : List Nat) (w : World) : Prop := w.ownsRow B 3 1 v K.length (K.map fun (i : Nat) => .int .i64 (i : Int))
theorem BodyB.keysPerm {F : List Nat} {q bm : Nat} {bk : Nat → Nat} {vs : Nat → Value} {D : DataW Value} {nn lv : Nat} {S : DSt} {w : World} (h : BodyB F q bm bk vs D nn lv S w) : ((waitL S.wt S.n).map fun (i : Nat) => (i : Int)).Perm (intKeys D) := by
  have hk : Try.prog.underlying 3 = some (.int .i64) := Try.underlying3
  obtain ⟨es, hD, hpw, _⟩ := World.ownsMap.entries h.mp (Maps.int_keyed hk)
  obtain ⟨es', hD', hko⟩ := World.ownsMap.keysOf h.mp
  obtain rfl : es = es' := by rw [hD] at hD'; simpa using hD'
  subst hD
  refine perm_intKeys hpw (fun p hp => by obtain ⟨v, hv⟩ := hko p hp; obtain ⟨x, _, hx, _⟩ := Maps.keyOf_i64 hk hv; exact ⟨x, hx⟩) ?_ (fun x => ?_)
  · refine List.Pairwise.map _ (fun a b h => ?_) (waitL_sorted S.wt S.n)
    omega
  · rw [has_getI, List.mem_map]
    constructor
    · rintro ⟨i, hi, rfl⟩
      obtain ⟨h1, h2⟩ := mem_waitL.1 hi
      rw [(h.row i h1 h2).1]; rfl
    · intro hx
      obtain ⟨j, h1, rfl, h3⟩ := h.no x hx
      exact ⟨j, mem_waitL.2 ⟨h1, h3⟩, rfl⟩
theorem keys32_c {F : List Nat} {q bm : Nat} {bk : Nat → Nat} {vs : Nat → Value} {D : DataW Value} {nn lv : Nat} {S : DSt} {w : World} (h : BodyB F q bm bk vs D nn lv S w) (hn : nn ≤ 1000001) :
    Calls Try.prog 32 #[.func (.func 39) #[] #[.pointer (some ⟨w.heap.size, 0, none⟩)]] (w.alloc (.cells #[.map (some bm)] 51)) fun e w' => ∃ A cap, e = .returned (.slice A (waitL S.wt S.n).length cap) ∧ KeysAt w.heap.size (.slice A (waitL S.wt S.n).length cap) (waitL S.wt S.n) w' ∧ Below w.heap.size w w' := by
  have hown : w.ownsMap Try.prog 3 anyI bm nn D := h.mp
  have hbl := hown.lt
  have hsz : Maps.size D ≤ nn := World.ownsMap.size_le hown
  have hseq : SeqGives Fence.wide 2 Try.prog 39 #[.pointer (some ⟨w.heap.size, 0, none⟩)] encZ (fun ss => ss.Perm (intKeys D)) (Maps.size D) (w.alloc (.cells #[.map (some bm)] 51)) :=
    AnyZI.keys_gives (ρ := Try.keysA_ren) { Try.keysA with } Fence.wide _ trivial rfl (by omega) w.heap.size bm nn D _ (by simp) (by simp) (by
      obtain ⟨es, clock, hb, Ft, hs, hD⟩ := hown
      exact ⟨es, clock, (Below.heap_alloc _ _ bm hbl).trans hb, Ft, hs, hD⟩)
  have cS := AnyZI.sorted_in Try.sortedA Fence.wide 5 trivial trivial trivial trivial rfl (by omega) (sortsI _) (enters_of Try.func38 (by kernel_rfl) rfl) 39 #[.pointer (some ⟨w.heap.size, 0, none⟩)] trivial (enters_of Try.func39 (by kernel_rfl) rfl) _ _ (by unfold maxLen; omega) (by omega) _ hseq
  refine (callsIn_wide.1 cS).mono ?_
  rintro e w' ⟨v, ss, rfl, hS, hrow, -, hb⟩
  have hp := hS.trans h.keysPerm.symm
  have hK := waitL_sorted S.wt S.n
  have hKn : ((waitL S.wt S.n).map fun (i : Nat) => (i : Int)).Nodup := by
    refine List.Pairwise.map _ (fun a b h => ?_) hK
    omega
  have e1 := sorted_is (ss := ss) (hp.nodup_iff.2 hKn) hK (fun x => by
    rw [hp.mem_iff, List.mem_map]
    constructor
    · rintro ⟨i, h1, rfl⟩; exact ⟨i, h1, rfl⟩
    · rintro ⟨i, h1, rfl⟩; exact ⟨i, h1, rfl⟩)
  have e2 : ss.length = (waitL S.wt S.n).length := by rw [hp.length_eq]; simp
  rw [e1, e2] at hrow
  obtain ⟨A, cap, rfl⟩ := row_slice hrow
  refine ⟨A, cap, rfl, ?_, ((Below.refl _ w).alloc (Nat.le_refl _) _).trans (hb.mono (by simp))⟩
  have := hrow.mono (base' := w.heap.size) (by simp)
  unfold KeysAt
  rw [List.map_map] at this
  exact this
/-- On the way of a crash. -/
def fallD (keep : Nat) (S : DSt) (j : Nat) : DSt := { S with is := fallS keep S j, gone := true }
theorem BodyB.fell {F : List Nat} {q bm : Nat} {bk : Nat → Nat} {vs : Nat → Value} {D : DataW Value} {nn lv keep j k p : Nat} {S : DSt} {w : World} (h : BodyB F q bm bk vs D nn lv (fallD keep S j) w) (hi : ∀ j, (S.is j).length ≤ 64) (hw : (waitL S.wt S.n)[j]? = some k) (hk : k < 512) {s : Byts} (hs : keptD keep j (S.is k) (short (S.wt k)) = s) :
    BodyB F q bm bk vs D nn lv (fallD keep S (j + 1)) (w.setCell ⟨q, k, none⟩ (.string (str s))) := by
  have hst := (h.st.set k (.string (str s))).congr (g := cellsB (fallS keep S (j + 1)) bm S.n true S.calls lv S.keep) (fun i hi => by
    unfold cellsB
    by_cases e : i = k
    · subst e
      rw [if_pos rfl, if_pos hk, fallS_step keep S hw, if_pos rfl, hs]
    · rw [if_neg e, fallS_step keep S hw, if_neg e]
      rfl)
  have hK : Keeps [q] w (w.setCell ⟨q, k, none⟩ (.string (str s))) := (Keeps.refl [q] w).setCell (.inl (by simp)) _
  have hl := fallS_len keep S hi h.wl (j + 1)
  have e : fallD keep S (j + 1) = { fallD keep S j with is := fallS keep S (j + 1), gone := true, left := S.left, keep := S.keep, calls := S.calls } := rfl
  rw [e]
  exact h.setq hK (fallS keep S (j + 1)) true lv S.left S.keep S.calls hst hl h.rl h.ll h.rk (fun e => absurd e (by decide))
theorem BodyB.fell0 {F : List Nat} {q bm : Nat} {bk : Nat → Nat} {vs : Nat → Value} {D : DataW Value} {nn lv keep j k : Nat} {S : DSt} {w : World} (h : BodyB F q bm bk vs D nn lv (fallD keep S j) w) (hw : (waitL S.wt S.n)[j]? = some k) (hs : keptD keep j (S.is k) (short (S.wt k)) = S.is k) : BodyB F q bm bk vs D nn lv (fallD keep S (j + 1)) w := by
  have e : fallS keep S (j + 1) = fallS keep S j := by
    funext i
    rw [fallS_step keep S hw]
    split
    · rename_i e; subst e; rw [hs, fallS_at keep S hw]
    · rfl
  have e2 : fallD keep S (j + 1) = fallD keep S j := by unfold fallD; rw [e]
  rw [e2]; exact h
set_option maxRecDepth 100000 in
set_option maxHeartbeats 2000000 in
theorem bCrash_any (F : List Nat) (q : Nat) (S : DSt) (c : Nat) (w : World) (h : IsBc F q S c w) (hc : c ≤ 1000000) (keep : Nat) (hk : keep < 18446744073709551616) :
    Calls Try.prog 21 #[.pointer (some ⟨q, 0, none⟩), .int .u64 keep] w fun e w' => e = .returned (.tuple #[]) ∧ DidBc F q (downD S keep) c w w' := by
  obtain ⟨g, hg⟩ : ∃ g, S.gone = g := ⟨_, rfl⟩
  by_cases hgone : g = true
  · subst hgone
    obtain ⟨bm, bk, vs, D, nn, lv, hb, hn⟩ := h
    have cG := hb.cG
    rw [hg] at cG
    have e : downD S keep = S := by unfold downD; rw [if_pos hg]
    rw [e]
    have HD : Hid (DidBc F q S c w w) := ⟨⟨F, ⟨bm, bk, vs, D, nn, lv, hb, hn⟩, fun k hk => .inl hk⟩, Keeps.refl _ _⟩
    clear e hg hb hn
    go_enter Try.func21, Try.ntmps21
    go_wp2_with fail
    refine bodyPost_ret (results_none rfl _ _ _) rfl ?_
    exact ⟨rfl, HD.out⟩
  obtain rfl : g = false := by simpa using hgone
  obtain ⟨bm, bk, vs, D, nn, lv, hb, hn⟩ := h
  have cG := hb.cG
  rw [hg] at cG
  have f1 := hb.fr 514
  have hst := (hb.st.set 514 (.bool true)).congr (g := cellsB S.is bm S.n true S.calls lv S.keep) (fun i hi => by
    unfold cellsB
    by_cases e2 : i = 514
    · subst e2; simp
    · rw [if_neg e2]; simp [e2])
  have hK1 : Keeps [q] w (w.setCell ⟨q, 514, none⟩ (.bool true)) := (Keeps.refl [q] w).setCell (.inl (by simp)) _
  have hB1 : BodyB F q bm bk vs D nn lv (fallD keep S 0) (w.setCell ⟨q, 514, none⟩ (.bool true)) := by
    have e : fallD keep S 0 = { S with is := S.is, gone := true, left := S.left, keep := S.keep, calls := S.calls } := by
      unfold fallD
      rw [show fallS keep S 0 = S.is from funext (fallS_zero keep S)]
    rw [e]
    exact hb.setq hK1 S.is true lv S.left S.keep S.calls hst hb.il hb.rl hb.ll hb.rk (fun e => by cases e)
  obtain ⟨K, hKw⟩ : ∃ K, waitL S.wt S.n = K := ⟨_, rfl⟩
  have hKl : K.length ≤ 512 := by rw [← hKw]; exact Nat.le_trans (waitL_len _ _) hb.n2
  have hm1 := hB1.cM
  have c33 := fun W => keys33_c (some bm) W
  have c32 := keys32_c hB1 (by omega)
  have ew : waitL (fallD keep S 0).wt (fallD keep S 0).n = K := hKw
  have esz : (w.setCell ⟨q, 514, none⟩ (.bool true)).heap.size = w.heap.size := by simp [World.setCell]
  rw [ew, esz] at c32
  have HC := Lib.hid c32
  have HB := Lib.hid (And.intro hb (And.intro hB1 (And.intro hK1 (And.intro hn (And.intro hg hKw)))))
  clear hgone hg hb hst hB1 hK1 hn hKw c32 ew esz
  go_enter Try.func21, Try.ntmps21
  go_wp2_with (first
    | (go_at_call 33; refine (c33 _).mono ?_; rintro e w1 ⟨rfl, rfl⟩)
    | (go_at_call 32; refine HC.out.mono ?_; rintro e w2 ⟨A, cap, rfl, hrow, hb2⟩; have HR := Lib.hid (And.intro hrow hb2); clear hrow hb2; dsimp only))
  have hB2 : Hid (BodyB F q bm bk vs D nn lv (fallD keep S 0) w2) := HB.out.2.1.keeps (Keeps.below' (F := []) HR.out.2 (by simp [World.setCell])) (by simp)
  have HKc : Hid (∀ W, Keeps [q] w2 W → ∀ (j k : Nat), K[j]? = some k → ∃ ad, A = some ad ∧ W.cell? (ad.add j) = some (.int .i64 (k : Int))) := by
    intro W hW j k hjk
    have hrow := HR.out.1
    unfold KeysAt at hrow
    rcases hrow.2 with ⟨e, h0⟩ | ⟨g, c, cur, e, hg, hbk, _⟩
    · have : K = [] := List.length_eq_zero_iff.1 h0
      subst this
      simp at hjk
    · injection e with e1 e2 e3
      subst e1 e3
      have hcell := hrow.cells (g := g) rfl j (.int .i64 (k : Int)) (by rw [List.getElem?_map, hjk]; rfl)
      have hgb : ((⟨g, 0, none⟩ : Addr).add j).block = g := by unfold Addr.add; split <;> rfl
      refine ⟨_, rfl, ?_⟩
      rw [World.cell?_of_block (w := w2) (w' := W) (a := (⟨g, 0, none⟩ : Addr).add j) (by rw [hgb]; exact hW.same g (lt_of_block hbk) (by have := HB.out.1.lt _ HB.out.1.qF; simp; omega))]
      exact hcell
  have hnn := HB.out.1.n2
  clear hm1 c33 cG
  go_loopw [22] (fun c wr => ∃ j : Nat, j ≤ K.length ∧ c = .int .i64 j ∧ Hid (BodyB F q bm bk vs D nn lv (fallD keep S j) wr ∧ Keeps [q] w2 wr)) (fun c _ => K.length - (intOf c).toNat)
  case atStart => exact ⟨0, Nat.zero_le _, rfl, hB2.out, Keeps.refl _ _⟩
  case round =>
    obtain ⟨j, hj, rfl, HA⟩ := hrel
    have cM := HA.out.1.cM
    by_cases hlt : j < K.length
    · obtain ⟨k, hjk⟩ : ∃ k, K[j]? = some k := ⟨_, List.getElem?_eq_getElem hlt⟩
      obtain ⟨ad, rfl, hc1⟩ := HKc.out wr HA.out.2 j k hjk
      rw [← HB.out.2.2.2.2.2] at hjk
      obtain ⟨hk1, hk2, -⟩ := rank_of_waitL hjk
      obtain ⟨A2, cap2, e0, hN, hcap, -, -⟩ := HA.out.1.looked k hk1
      have hlk := HA.out.1.mp.look false (e := 29) Try.underlying3 Try.underlying51 (z := .slice none 0 0) (by kernel_rfl) (k : Int) (wf_i64 (by omega) (by omega))
      simp only [Bool.false_eq_true, if_false, e0] at hlk
      have hl4 := (short_len (S.wt k)).1
      have hkept : ∀ p, pickN keep j (short (S.wt k)).length = p → keptD keep j (S.is k) (short (S.wt k)) = if p = 0 then S.is k else (short (S.wt k)).getD (p - 1) [] := fun p hp => by unfold keptD; rw [hp]
      have hwt : (fallD keep S j).wt k = S.wt k := rfl
      rw [hwt] at hlk hN hcap
      obtain ⟨L, hL⟩ : ∃ L, short (S.wt k) = L := ⟨_, rfl⟩
      rw [hL] at hlk hN hcap hl4 hkept
      obtain ⟨M, hM⟩ : ∃ M, L.length = M := ⟨_, rfl⟩
      obtain ⟨y, hy⟩ : ∃ y, keep / 2 ^ (2 * (j % 32)) % 4 = y := ⟨_, rfl⟩
      obtain ⟨p, hp⟩ : ∃ p, y % (M + 1) = p := ⟨_, rfl⟩
      have hpk : pickN keep j L.length = p := by unfold pickN; rw [hM, hy, hp]
      have hpM : p ≤ M := by have := Nat.mod_lt y (show 0 < M + 1 by omega); omega
      have hy4 : y < 4 := by rw [← hy]; exact Nat.mod_lt _ (by omega)
      have t1 : (y : Int) % ((M : Int) + 1) = (p : Int) := by rw [← hp]; simp
      have t2 : (y : Int).tmod ((M : Int) + 1) = (p : Int) := by rw [Int.tmod_eq_emod_of_nonneg (by omega)]; exact t1
      have hke := hkept p hpk
      have hcp := bPair_c keep j
      rw [hy] at hcp
      rw [hM] at hlk hcap hl4
      have HCP := Lib.hid hcp
      have HJ := Lib.hid (And.intro hjk (And.intro hk1 hL))
      have hk5 : k < 512 := by omega
      clear hkept hpk hwt e0 hy hp hcp hk2
      by_cases hp0 : p = 0
      · subst hp0
        rw [if_pos rfl, ← hL] at hke
        have HS := Lib.hid (And.intro (HA.out.1.fell0 HJ.out.1 hke) HA.out.2)
        clear hke hN hL hM hjk hk1
        go_wp2_with (go_at_call 34; refine (HCP.out _ hk (by omega)).mono ?_; rintro e w3 ⟨rfl, rfl⟩)
        go_roundw
        case rel => exact ⟨j + 1, by omega, by go_num, HS.out⟩
        case measure => simp [intOf]; omega
      · rw [if_neg hp0] at hke
        obtain ⟨m, hm⟩ : ∃ m, p - 1 = m := ⟨_, rfl⟩
        have m1 : (p : Int) - 1 = (m : Int) := by omega
        have m2 : m < M := by omega
        rw [hm, List.getD_eq_getElem?_getD, List.getElem?_eq_getElem (by omega)] at hke
        obtain ⟨-, ad2, rfl, k2, k3⟩ := hN.is.2.2 m (by omega)
        obtain ⟨u, hu⟩ : ∃ u, L[m]'(by omega) = u := ⟨_, rfl⟩
        rw [hu] at k3
        simp only [Option.getD_some] at hke
        rw [hu, ← hL] at hke
        have HS := Lib.hid (And.intro ((HA.out.1.fell (p := 0) HB.out.1.il HJ.out.1 hk5 hke).keeps (G := []) (Keeps.refl _ _).drew (by simp)) (HA.out.2.setCell (p := ⟨q, k, none⟩) (.inl (by simp)) (.string (str u))).drew)
        have s1 : IntKind.i64.wrap ((p : Int) - 1) = (m : Int) := by rw [m1]; exact IntWalk.i64_in _ (by omega)
        have m4 : (0 : Int) < (p : Int) := by omega
        have fk := HA.out.1.fr k
        have ck := HA.out.1.cIs hk5
        clear hke hN hL hM hjk hk1 hu hm
        go_wp2_with (go_at_call 34; refine (HCP.out _ hk (by omega)).mono ?_; rintro e w3 ⟨rfl, rfl⟩)
        go_region
        go_wp2_with fail
        go_roundw
        case rel => exact ⟨j + 1, by omega, by go_num, HS.out⟩
        case measure => simp [intOf]; omega
    · obtain rfl : j = K.length := by omega
      obtain ⟨w3, hcl, hM3, hg3⟩ := MapI.clear (t := 51) (e := 29) HA.out.1.mp Try.underlying51 0
      have hcl2 : ∀ ty, (Builtin.clear_ #[51] ty #[.map (some bm)]).run Try.prog wr = .ok (.tuple #[]) w3 := fun ty => hcl
      have hD : DidBc F q (downD S keep) c w w3 := by
        obtain ⟨hb, hB1, hK1, hn, hg, hKw⟩ := HB.out
        obtain ⟨hBe, hKe⟩ := HA.out
        have hK3 : Keeps [q, bm] wr w3 := (Keeps.refl _ wr).grown hg3 (fun k hk => by left; simp at hk; simp [hk])
        have hKall : Keeps [q, bm] w w3 := by
          refine Keeps.trans (Keeps.trans (Keeps.trans (hK1.more (fun k hk => .inl (by simp at hk; simp [hk]))) (Keeps.below' (F := []) HR.out.2 (by simp [World.setCell])) (by simp)) hKe (fun k hk => .inl (by simp at hk; simp [hk]))) hK3 (fun k hk => .inl hk)
        have eD : downD S keep = { fallD keep S K.length with is := fallen keep S.is S.wt, wt := fun _ => [], gone := true, left := 0, calls := S.calls } := by
          unfold downD
          rw [if_neg (by rw [hg]; simp)]
          rfl
        have hfa : fallS keep S K.length = fallen keep S.is S.wt := by
          funext i
          rw [← hKw]
          exact fallS_all keep S hb.out i
        have hst : w3.rowIs q 54 518 (cellsB (fallen keep S.is S.wt) bm S.n true S.calls lv S.keep) := by
          rw [← hfa]
          exact rowIs_keeps hBe.st ((Keeps.refl [bm] wr).grown hg3 (fun k hk => by left; simp at hk; simp [hk])) (by simpa using hb.apart_qm)
        have hBf : BodyB F q bm bk vs (.map []) 0 lv (downD S keep) w3 := by
          rw [eD]
          exact hBe.cleared hK3 hM3 (fallen keep S.is S.wt) true lv 0 S.calls hst (fun i => by rw [← hfa]; exact fallS_len keep S hb.il hb.wl _ i) (by omega) hb.ll (fun e => absurd e (by decide))
        exact DidB.of (X := [q, bm]) (fun k hk => .inl (by simp at hk; rcases hk with rfl | rfl; exact hb.qF; exact hb.mF)) hKall ⟨bm, bk, vs, _, 0, lv, hBf, Nat.zero_le _⟩
      have HD := Lib.hid hD
      clear hD hcl hM3 hg3
      go_wp2_with fail
      go_end0
      exact ⟨rfl, HD.out⟩
end Go.Proofs.Ytndmndchbfmppaa
