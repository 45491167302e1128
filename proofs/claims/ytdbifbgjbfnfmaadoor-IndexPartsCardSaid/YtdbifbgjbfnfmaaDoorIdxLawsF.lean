/-
  Layer 7 (index): the law IndexParts returns true.
-/
import Derived.Test.YtdbifbgjbfnfmaaDoorM14
import Derived.Test.YtdbifbgjbfnfmaaDoorM18
namespace Go.Proofs.YtdbifbgjbfnfmaaDoor
open Go.RowKit Go.Deep
attribute [local go_sem] str_size str_append str_toList str_get str_extract
set_option linter.unusedVariables false
set_option linter.unusedSimpArgs false
theorem sel_parts (X : Ix) (n v : Txt) (k : Nat) : (∀ i, meant X [(1, n, v, [])] i = !meant X [(0, n, v, [])] i) ∧ (selN X [(0, n, v, [])] k).length + (selN X [(1, n, v, [])] k).length = k ∧ mergeL fOr (selN X [(0, n, v, [])] k) (selN X [(1, n, v, [])] k) = selN X [] k ∧ (selN X [] k).length = k := by
  have h0 : ∀ i, meant X [(1, n, v, [])] i = !meant X [(0, n, v, [])] i := fun i => by simp [meant, allL, oneL, bne]
  have hE : ∀ i, meant X [] i = true := fun i => by simp [meant, allL]
  refine ⟨h0, ?_, ?_, ?_⟩
  · induction k with
    | zero => simp [selN]
    | succ k ih =>
      rw [selN_next, selN_next, h0 k]
      cases meant X [(0, n, v, [])] k <;> simp <;> omega
  · refine up_ext (up_merge _ _ _ (selN_up _ _ _) (selN_up _ _ _)) (selN_up _ _ _) fun x => ?_
    rw [mem_or (selN_up _ _ _) (selN_up _ _ _), selN_mem, selN_mem, selN_mem]
    constructor
    · rintro (⟨i, h1, h2, _⟩ | ⟨i, h1, h2, _⟩)
      · exact ⟨i, h1, h2, hE i⟩
      · exact ⟨i, h1, h2, hE i⟩
    · rintro ⟨i, h1, h2, _⟩
      cases hm : meant X [(0, n, v, [])] i with
      | true => exact .inl ⟨i, h1, h2, hm⟩
      | false => exact .inr ⟨i, h1, h2, by rw [h0, hm]; rfl⟩
  · induction k with
    | zero => simp [selN]
    | succ k ih => rw [selN_next, hE k]; simp [ih]
theorem chk_parts (n v : Txt) : chkAll [(1, n, v, [])] = chkAll [(0, n, v, [])] := by simp [chkAll, chkL]
theorem ms_one (w : World) (k : Int) (n v : Txt) (hk : 0 ≤ k ∧ k ≤ 3) (h1 : n.length ≤ 1024) (h2 : v.length ≤ 1024) : MsAt (w.alloc (.cells #[.int .i64 k, .string (str n), .string (str v), .slice none 0 0] 47)) (some ⟨w.heap.size, 0, none⟩) 1 [(k, n, v, [])] := by
  refine ⟨rfl, fun i hi => ?_⟩
  have h := blk_new w (.cells #[.int .i64 k, .string (str n), .string (str v), .slice none 0 0] 47)
  match i, hi with
  | 0, _ => exact ⟨⟨by simp; omega, by simp; omega, by simp, by simp; omega, by simp; omega⟩, _, rfl, lt_of_block h, blk_cell h 0, blk_cell h 1, blk_cell h 2, none, 0, blk_cell h 3, StrsAt.nil _ _⟩
theorem one_small {k : Int} {n v : Txt} (h1 : n.length ≤ 1024) (h2 : v.length ≤ 1024) : SmallMs [(k, n, v, [])] := ⟨by simp, fun m hm => by simp at hm; subst hm; exact ⟨h1, h2, by simp, by simp⟩⟩
theorem orI {A A' : Option Addr} {cap cap' : Nat} {l m : List Int} {w : World} (hl : l.length ≤ 10000) (hm : m.length ≤ 10000) (hA : NewI 0 (.slice A l.length cap) l w) (hB : NewI 0 (.slice A' m.length cap') m w) :
    Calls Tryd.prog 24 #[.slice A l.length cap, .slice A' m.length cap'] w fun e w' => (∃ A1 c1, e = .returned (.slice A1 (mergeL fOr l m).length c1) ∧ NewI 0 (.slice A1 (mergeL fOr l m).length c1) (mergeL fOr l m) w') ∧ Below w.heap.size w w' := by
  obtain ⟨_, _, e, hI⟩ := hA.at
  injection e with e1 e2 e3
  subst e1 e3
  obtain ⟨_, _, e, hJ⟩ := hB.at
  injection e with e1 e2 e3
  subst e1 e3
  refine (refOr_c A A' l.length m.length cap cap' l m w hl hm hI hJ).mono ?_
  rintro e w1 ⟨⟨v, rfl, hN⟩, hb⟩
  obtain ⟨A1, c1, rfl, _⟩ := hN.at
  exact ⟨⟨A1, c1, rfl, hN.mono (Nat.zero_le _)⟩, hb⟩
set_option maxRecDepth 100000 in
set_option maxHeartbeats 1000000 in
theorem law_IndexParts (a0 : Option Addr) (len0 cap0 : Nat) (z0 : List (List Lab)) (a1 : ByteArray) (a2 : ByteArray) (w : World) (hl0 : len0 ≤ maxLen) (w0 : LLAt w a0 len0 cap0 z0) (w1 : a1.size ≤ maxLen) (w2 : a2.size ≤ maxLen) (hT : Lib.Utf8Tabs 1 2 w) (hS : w.ShapedOpen Tryd.prog) :
    Calls Tryd.prog 5 #[.slice a0 len0 cap0, .string a1, .string a2] w fun e w' => e = .returned (.bool true) ∧ Below w.heap.size w w' := by
  have hle0 := w0.1
  subst hle0
  unfold maxLen at hl0
  obtain ⟨s1, rfl⟩ := str_of a1
  rw [str_size] at w1
  unfold maxLen at w1
  obtain ⟨s2, rfl⟩ := str_of a2
  rw [str_size] at w2
  unfold maxLen at w2
  have HE := Lib.hid (fun W (h : Below w.heap.size w W) => (Env.mk hT (maxLen_cell7 hS)).below h)
  have Z0 := Lib.hid w0
  clear hT hS w0
  by_cases hn1 : 1024 < (s1.length : Int)
  · have t1 : decide (1024 < (s1.length : Int)) = true := by simpa using hn1
    go_enter Tryd.func5, Tryd.ntmps5
    go_wp2_with fail
    refine (heavy7_c _ _ _ z0 _ (by omega) Z0.out).mono ?_
    rintro e v1 ⟨⟨b, rfl, hs⟩, hb⟩
    cases b
    all_goals
      go_wp2_with fail
      go_ret
      exact ⟨rfl, hb⟩
  have t1 : decide (1024 < (s1.length : Int)) = false := by simpa using hn1
  have hs1 : s1.length ≤ 1024 := by omega
  clear hn1
  by_cases hn2 : 1024 < (s2.length : Int)
  · have t2 : decide (1024 < (s2.length : Int)) = true := by simpa using hn2
    go_enter Tryd.func5, Tryd.ntmps5
    go_wp2_with fail
    refine (heavy7_c _ _ _ z0 _ (by omega) Z0.out).mono ?_
    rintro e v1 ⟨⟨b, rfl, hs⟩, hb⟩
    cases b
    all_goals
      go_wp2_with fail
      go_ret
      exact ⟨rfl, hb⟩
  have t2 : decide (1024 < (s2.length : Int)) = false := by simpa using hn2
  have hs2 : s2.length ≤ 1024 := by omega
  clear hn2
  go_enter Tryd.func5, Tryd.ntmps5
  have hb := Below.refl w.heap.size w
  go_wp2_with fail
  refine (heavy7_c _ _ _ z0 _ (by omega) (Z0.out.below hb)).mono ?_
  rintro e v1 ⟨⟨b, rfl, hs⟩, hk⟩
  have hb := below2 hb hk hb.size
  clear hk
  cases b
  case true =>
    go_wp2_with fail
    go_ret
    exact ⟨rfl, hb⟩
  have hs := hs rfl
  have M0 := Lib.hid hs
  clear hs
  go_wp2_with fail
  refine (made_c _ _ _ z0 _ (Z0.out.below hb) M0.out (HE.out _ hb)).mono ?_
  rintro e v2 ⟨⟨q, p, rfl, hT2⟩, hk⟩
  have HT := Lib.hid (hT2.mono hb.size)
  clear hT2
  have hb := below2 hb hk hb.size
  clear hk
  obtain ⟨X, hX⟩ : ∃ X, addAll [] z0 = X := ⟨_, rfl⟩
  rw [hX] at HT
  have HX := Lib.hid hX
  clear hX
  have hp := sel_parts X s1 s2 X.length
  have hcp := chk_parts s1 s2
  have hX2 := HT.out.good.1.few
  have HA1 : Hid (Below v2.heap.size v2 (v2.alloc (.cells #[.int .i64 0, .string (str s1), .string (str s2), .slice none 0 0] 47))) := (Below.refl _ _).alloc (Nat.le_refl _) _
  obtain ⟨wa, hwa⟩ : ∃ wa, v2.alloc (.cells #[.int .i64 0, .string (str s1), .string (str s2), .slice none 0 0] 47) = wa := ⟨_, rfl⟩
  have HA2 : Hid (Below wa.heap.size wa (wa.alloc (.cells #[.int .i64 1, .string (str s1), .string (str s2), .slice none 0 0] 47))) := (Below.refl _ _).alloc (Nat.le_refl _) _
  have M1 := Lib.hid (ms_one v2 0 s1 s2 ⟨by omega, by omega⟩ hs1 hs2)
  have M2 := Lib.hid (ms_one wa 1 s1 s2 ⟨by omega, by omega⟩ hs1 hs2)
  rw [hwa] at HA1 M1
  obtain ⟨wc, hwc⟩ : ∃ wc, wa.alloc (.cells #[.int .i64 1, .string (str s1), .string (str s2), .slice none 0 0] 47) = wc := ⟨_, rfl⟩
  rw [hwc] at HA2 M2
  have M1 := Lib.hid (M1.out.below HA2.out)
  have hk := below2 HA1.out HA2.out HA1.out.size
  
  have HT := Lib.hid (HT.out.below hk)
  have hb := below2 hb hk hb.size
  clear hk
  have hk0 : Hid (SmallMs [(0, s1, s2, [])]) := one_small hs1 hs2
  have hk1 : Hid (SmallMs [(1, s1, s2, [])]) := one_small hs1 hs2
  obtain ⟨P, hP⟩ : ∃ P, selX X [(0, s1, s2, [])] = P := ⟨_, rfl⟩
  obtain ⟨Q, hQ⟩ : ∃ P, selX X [(1, s1, s2, [])] = P := ⟨_, rfl⟩
  obtain ⟨E, hE⟩ : ∃ E, eM (chkAll [(0, s1, s2, [])]) = E := ⟨_, rfl⟩
  have hE1 : eM (chkAll [(1, s1, s2, [])]) = E := by rw [hcp, hE]
  have hall : selX X [] = selN X [] X.length := rfl
  obtain ⟨N, hN⟩ : ∃ N, selN X [] X.length = N := ⟨_, rfl⟩
  have hcase : (E = 0 ∧ mergeL fOr P Q = N ∧ P.length + Q.length = X.length ∧ N.length = X.length) ∨ (E = 50 ∧ P = [] ∧ Q = []) := by
    cases hc : chkAll [(0, s1, s2, [])] with
    | true =>
      left
      have h0 : selX X [(0, s1, s2, [])] = selN X [(0, s1, s2, [])] X.length := by unfold selX; rw [if_pos hc]
      have h1 : selX X [(1, s1, s2, [])] = selN X [(1, s1, s2, [])] X.length := by unfold selX; rw [if_pos (hcp.trans hc)]
      rw [← hP, ← hQ, ← hE, h0, h1, hc, ← hN]
      exact ⟨rfl, hp.2.2.1, hp.2.1, hp.2.2.2⟩
    | false =>
      right
      have h0 : selX X [(0, s1, s2, [])] = [] := by unfold selX; rw [hc]; rfl
      have h1 : selX X [(1, s1, s2, [])] = [] := by unfold selX; rw [hcp.trans hc]; rfl
      rw [← hP, ← hQ, ← hE, h0, h1, hc]
      exact ⟨rfl, rfl, rfl⟩
  have HF := Lib.hid (And.intro (And.intro hP hE) (And.intro hQ hE1))
  have HC := Lib.hid hcase
  have HN := Lib.hid (hall.trans hN)
  clear hP hQ hE hE1 hcase hp hcp hall hN hs1 hs2
  go_wp2_with fail
  refine (xselect HT.out M1.out hk0.out (HE.out _ hb)).mono ?_
  rintro e v3 ⟨⟨A1, c1, rfl, hP⟩, hk⟩
  rw [HF.out.1.1] at hP ⊢
  rw [HF.out.1.2]
  have M1 := Lib.hid (M1.out.below hk)
  have M2 := Lib.hid (M2.out.below hk)
  have HT := Lib.hid (HT.out.below hk)
  have RP := Lib.hid hP
  have hb := below2 hb hk hb.size
  clear hk hP
  go_wp2_with fail
  refine (xselect HT.out M2.out hk1.out (HE.out _ hb)).mono ?_
  rintro e v4 ⟨⟨A2, c2, rfl, hQ⟩, hk⟩
  rw [HF.out.2.1] at hQ ⊢
  rw [HF.out.2.2]
  have M1 := Lib.hid (M1.out.below hk)
  have HT := Lib.hid (HT.out.below hk)
  have RP := Lib.hid (RP.out.below hk)
  have RQ := Lib.hid hQ
  have hb := below2 hb hk hb.size
  clear hk hQ
  go_wp2_with fail
  refine (rselect HT.out M1.out hk0.out).mono ?_
  rintro e v5 ⟨⟨A3, c3, rfl, hG⟩, hk⟩
  rw [HF.out.1.1] at hG ⊢
  rw [HF.out.1.2]
  have HT := Lib.hid (HT.out.below hk)
  have RP := Lib.hid (RP.out.below hk)
  have RQ := Lib.hid (RQ.out.below hk)
  have RG := Lib.hid hG
  have hb := below2 hb hk hb.size
  clear hk hG
  have tE : (E == E) = true := by simp
  rcases HC.out with ⟨rfl, hm, hlen, hN2⟩ | ⟨rfl, rfl, rfl⟩
  case inr =>
    go_wp2_with fail
    go_ret
    exact ⟨rfl, hb⟩
  have hlP : P.length ≤ 200 := by omega
  have hlQ : Q.length ≤ 200 := by omega
  have HM := Lib.hid hm
  clear hm
  go_wp2_with fail
  refine (orI (by omega) (by omega) RP.out RQ.out).mono ?_
  rintro e v6 ⟨⟨A4, c4, rfl, hO⟩, hk⟩
  rw [HM.out] at hO ⊢
  have HT := Lib.hid (HT.out.below hk)
  have RP := Lib.hid (RP.out.below hk)
  have RQ := Lib.hid (RQ.out.below hk)
  have RG := Lib.hid (RG.out.below hk)
  have RO := Lib.hid hO
  have hb := below2 hb hk hb.size
  clear hk hO
  have eL : (P.length : Int) + (Q.length : Int) = (X.length : Int) := by omega
  have tX : ((X.length : Int) == (X.length : Int)) = true := by simp
  have tW : wrap64 (X.length : Int) = (X.length : Int) := by unfold wrap64; omega
  go_wp2_with fail
  refine (rlen HT.out).mono ?_
  rintro e v7 ⟨rfl, hk⟩
  have HT := Lib.hid (HT.out.below hk)
  have RP := Lib.hid (RP.out.below hk)
  have RQ := Lib.hid (RQ.out.below hk)
  have RG := Lib.hid (RG.out.below hk)
  have RO := Lib.hid (RO.out.below hk)
  have hb := below2 hb hk hb.size
  clear hk
  go_wp2_with fail
  refine (rlen HT.out).mono ?_
  rintro e v8 ⟨rfl, hk⟩
  have HT := Lib.hid (HT.out.below hk)
  have RP := Lib.hid (RP.out.below hk)
  have RQ := Lib.hid (RQ.out.below hk)
  have RG := Lib.hid (RG.out.below hk)
  have RO := Lib.hid (RO.out.below hk)
  have hb := below2 hb hk hb.size
  clear hk
  have M0n := Lib.hid (xselect (A := none) (len := 0) (cap := 0) (ms := []) HT.out (MsAt.nil _ _) ⟨by simp, by simp⟩ (HE.out _ hb))
  rw [HN.out, show eM (chkAll []) = 0 from rfl] at M0n
  go_wp2_with fail
  refine (M0n.out).mono ?_
  rintro e v9 ⟨⟨A5, c5, rfl, hV⟩, hk⟩
  have HT := Lib.hid (HT.out.below hk)
  have RP := Lib.hid (RP.out.below hk)
  have RQ := Lib.hid (RQ.out.below hk)
  have RG := Lib.hid (RG.out.below hk)
  have RO := Lib.hid (RO.out.below hk)
  have RV := Lib.hid hV
  have hb := below2 hb hk hb.size
  clear hk hV
  have hmk := make_one
  go_wp2_with fail
  refine (xodd HT.out (fun W hW => HE.out W (below2 hb hW hb.size))).mono ?_
  rintro e v10 ⟨⟨A0, c0, rfl, _⟩, hk⟩
  clear hmk
  have HT := Lib.hid (HT.out.below hk)
  have RP := Lib.hid (RP.out.below hk)
  have RQ := Lib.hid (RQ.out.below hk)
  have RG := Lib.hid (RG.out.below hk)
  have RO := Lib.hid (RO.out.below hk)
  have RV := Lib.hid (RV.out.below hk)
  have hb := below2 hb hk hb.size
  clear hk
  go_wp2_with fail
  rw [← hN2]
  refine (sameI (b := true) (decide_eq_true rfl) (by omega) (by omega) RV.out RO.out).mono ?_
  rintro e v11 ⟨rfl, hk⟩
  have HT := Lib.hid (HT.out.below hk)
  have RP := Lib.hid (RP.out.below hk)
  have RQ := Lib.hid (RQ.out.below hk)
  have RG := Lib.hid (RG.out.below hk)
  have RO := Lib.hid (RO.out.below hk)
  have RV := Lib.hid (RV.out.below hk)
  have hb := below2 hb hk hb.size
  clear hk
  go_wp2_with fail
  go_ret
  exact ⟨rfl, hb⟩
end Go.Proofs.YtdbifbgjbfnfmaaDoor
