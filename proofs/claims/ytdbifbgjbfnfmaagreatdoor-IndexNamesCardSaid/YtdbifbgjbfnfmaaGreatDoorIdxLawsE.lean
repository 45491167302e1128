/-
  Layer 7 (index): the law IndexNames returns true.
-/
import Derived.Test.YtdbifbgjbfnfmaaGreatDoorM18
namespace Go.Proofs.YtdbifbgjbfnfmaaGreatDoor
open Go.RowKit Go.Deep
attribute [local go_sem] str_size str_append str_toList str_get str_extract
set_option linter.unusedVariables false
set_option linter.unusedSimpArgs false
set_option maxRecDepth 100000 in
set_option maxHeartbeats 1000000 in
theorem law_IndexNames (a0 : Option Addr) (len0 cap0 : Nat) (z0 : List (List Lab)) (a1 : ByteArray) (w : World) (hl0 : len0 ≤ maxLen) (w0 : LLAt w a0 len0 cap0 z0) (w1 : a1.size ≤ maxLen) (hT : Lib.Utf8Tabs 1 2 w) (hS : w.ShapedOpen Tryz.prog) :
    Calls Tryz.prog 3 #[.slice a0 len0 cap0, .string a1] w fun e w' => e = .returned (.bool true) ∧ Below w.heap.size w w' := by
  have hle0 := w0.1
  subst hle0
  unfold maxLen at hl0
  obtain ⟨s1, rfl⟩ := str_of a1
  rw [str_size] at w1
  unfold maxLen at w1
  have HE := Lib.hid (fun W (h : Below w.heap.size w W) => (Env.mk hT (maxLen_cell7 hS)).below h)
  have Z0 := Lib.hid w0
  clear hT hS w0
  by_cases hn : 1024 < (s1.length : Int)
  · have t1 : decide (1024 < (s1.length : Int)) = true := by simpa using hn
    go_enter Tryz.func3, Tryz.ntmps3
    go_wp2_with fail
    refine (heavy7_c _ _ _ z0 _ (by omega) Z0.out).mono ?_
    rintro e v1 ⟨⟨b, rfl, hs⟩, hb⟩
    cases b
    all_goals
      go_wp2_with fail
      go_ret
      exact ⟨rfl, hb⟩
  have t1 : decide (1024 < (s1.length : Int)) = false := by simpa using hn
  have hn1 : s1.length ≤ 1024 := by omega
  clear hn
  go_enter Tryz.func3, Tryz.ntmps3
  have hb := Below.refl w.heap.size w
  go_wp2_with fail
  refine (heavy7_c _ _ _ z0 _ (by omega) (Z0.out.below hb)).mono ?_
  rintro e v1 ⟨⟨b, rfl, hs⟩, hk⟩
  have hb := below2 hb hk hb.size
  clear hk
  cases b
  case true =>
    go_wp2_with fail
    go_ret
    exact ⟨rfl, hb⟩
  have hs := hs rfl
  have M0 := Lib.hid hs
  clear hs
  go_wp2_with fail
  refine (made_c _ _ _ z0 _ (Z0.out.below hb) M0.out (HE.out _ hb)).mono ?_
  rintro e v2 ⟨⟨q, p, rfl, hT2⟩, hk⟩
  have HT := Lib.hid (hT2.mono hb.size)
  clear hT2
  have hb := below2 hb hk hb.size
  clear hk
  obtain ⟨X, hX⟩ : ∃ X, addAll [] z0 = X := ⟨_, rfl⟩
  rw [hX] at HT
  have HX := Lib.hid hX
  clear hX
  go_wp2_with fail
  refine (rnames HT.out).mono ?_
  rintro e v3 ⟨⟨AN, cN, rfl, hN⟩, hk⟩
  have HT := Lib.hid (HT.out.below hk)
  have RN := Lib.hid hN
  have hb := below2 hb hk hb.size
  clear hk hN
  have hNl := (namesX_is X (fun l hl => (labs_small (HT.out.good.1.ok l hl)).1)).2
  have hX2 := HT.out.good.1.few
  obtain ⟨N, hN⟩ : ∃ N, namesX X = N := ⟨_, rfl⟩
  rw [hN] at RN hNl ⊢
  have HN := Lib.hid hN
  clear hN
  go_wp2_with fail
  go_loopw [9] (fun c wr => ∃ i : Nat, i ≤ N.length ∧ c = .int .i64 i ∧ Hid (Two7 w.heap.size q p X X wr) ∧ Hid (TRow wr AN cN N) ∧ Below w.heap.size w wr) (fun c _ => N.length - (intOf c).toNat)
  case atStart => exact ⟨0, Nat.zero_le _, rfl, HT.out, RN.out, hb⟩
  case round =>
    clear HT RN hb
    obtain ⟨i, hi, rfl, HT, RN, hb⟩ := hrel
    have hbs := hb.size
    by_cases hlt : i < N.length
    · obtain ⟨r1, ad, rfl, h2, h3⟩ := RN.out.at i hlt
      obtain ⟨n, hn⟩ : ∃ n, N[i]'hlt = n := ⟨_, rfl⟩
      rw [hn] at r1 h3
      have HG := Lib.hid (fun (W : World) (hW : Below wr.heap.size wr W) => (hW.cell (p := ad.add i) h2).trans h3)
      have C1 := Lib.hid (fun W (h : Below wr.heap.size wr W) => xvalues (HT.out.below h) r1)
      have C2 := Lib.hid (fun W (h : Below wr.heap.size wr W) => rvalues (HT.out.below h) r1)
      have hvl := (valuesX_is X n).2
      obtain ⟨V, hV⟩ : ∃ V, valuesX X n = V := ⟨_, rfl⟩
      rw [hV] at C1 C2 hvl
      clear hn hV
      go_wp2_with fail
      go_region_with (first
        | (go_at_call 8; refine (C1.out _ (by first | exact Below.refl _ _ | exact (Below.refl _ _).drew | exact below_drewN (Below.refl _ _) _)).mono ?_; rintro e w1 ⟨⟨A1, c1, rfl, hV1⟩, hb1⟩; have hb1 : Below wr.heap.size wr w1 := (by first | exact hb1 | exact below_of_drew hb1 | exact below_of_drew (below_of_drew hb1)); have HV1 := Lib.hid hV1; have h2b : (ad.add i).block < w1.heap.size := Nat.lt_of_lt_of_le h2 hb1.size; have h3b := HG.out _ hb1; clear hV1; dsimp only)
        | (go_at_call 9; refine (C2.out _ (by first | exact hb1 | exact hb1.drew | exact below_drewN hb1 _)).mono ?_; rintro e w2 ⟨⟨A2, c2, rfl, hV2⟩, hb2⟩; have hb2 : Below w1.heap.size w1 w2 := (by first | exact hb2 | exact below_of_drew hb2 | exact below_of_drew (below_of_drew hb2)); have HV2 := Lib.hid hV2; have HV3 := Lib.hid (HV1.out.below hb2); have hb3 := below2 hb1 hb2 hb1.size; clear hV2; dsimp only)
        | (go_at_call 7; refine (sameT_c A1 A2 c1 c2 V V _ (by omega) (by omega) HV3.out HV2.out).mono ?_; rintro e w3 ⟨rfl, hb4⟩; have hb5 := below2 hb3 hb4 hb3.size; dsimp only))
      all_goals
        have td : decide (V = V) = true := decide_eq_true rfl
        go_wp2_with fail
        go_roundw
        case rel => exact ⟨i + 1, by omega, by go_num, HT.out.below hb5, RN.out.below hb5, below2 hb hb5 hbs⟩
        case measure => simp [intOf]; omega
    · obtain rfl : i = N.length := by omega
      clear hlt hi
      have hmk := make_one
      go_wp2_with fail
      refine (xodd HT.out (fun W hW => HE.out W (below2 hb hW hb.size))).mono ?_
      rintro e v4 ⟨⟨A0, c0, rfl, _⟩, hk⟩
      clear hmk
      have HT := Lib.hid (HT.out.below hk)
      have RN := Lib.hid (RN.out.below hk)
      have hb := below2 hb hk hb.size
      clear hk
      go_wp2_with fail
      refine (xnames HT.out).mono ?_
      rintro e v5 ⟨⟨A3, c3, rfl, hM⟩, hk⟩
      rw [HN.out] at hM ⊢
      have HT := Lib.hid (HT.out.below hk)
      have RN := Lib.hid (RN.out.below hk)
      have RM := Lib.hid hM
      have hb := below2 hb hk hb.size
      clear hk hM
      go_wp2_with fail
      refine (sameT_c A3 AN c3 cN N N _ (by omega) (by omega) RM.out RN.out).mono ?_
      rintro e v6 ⟨rfl, hk⟩
      have HT := Lib.hid (HT.out.below hk)
      have RN := Lib.hid (RN.out.below hk)
      have RM := Lib.hid (RM.out.below hk)
      have hb := below2 hb hk hb.size
      clear hk
      have td : decide (N = N) = true := decide_eq_true rfl
      have hvl := (valuesX_is X s1).2
      obtain ⟨V, hV⟩ : ∃ V, valuesX X s1 = V := ⟨_, rfl⟩
      have HV := Lib.hid hV
      rw [hV] at hvl
      clear hV
      go_wp2_with fail
      refine (xvalues HT.out (by omega)).mono ?_
      rintro e v7 ⟨⟨A4, c4, rfl, hP⟩, hk⟩
      rw [HV.out] at hP ⊢
      have HT := Lib.hid (HT.out.below hk)
      have RN := Lib.hid (RN.out.below hk)
      have RM := Lib.hid (RM.out.below hk)
      have RP := Lib.hid hP
      have hb := below2 hb hk hb.size
      clear hk hP
      go_wp2_with fail
      refine (rvalues HT.out (by omega)).mono ?_
      rintro e v8 ⟨⟨A5, c5, rfl, hQ⟩, hk⟩
      rw [HV.out] at hQ ⊢
      have HT := Lib.hid (HT.out.below hk)
      have RN := Lib.hid (RN.out.below hk)
      have RM := Lib.hid (RM.out.below hk)
      have RP := Lib.hid (RP.out.below hk)
      have RQ := Lib.hid hQ
      have hb := below2 hb hk hb.size
      clear hk hQ
      go_wp2_with fail
      refine (sameT_c A4 A5 c4 c5 V V _ (by omega) (by omega) RP.out RQ.out).mono ?_
      rintro e v9 ⟨rfl, hk⟩
      have HT := Lib.hid (HT.out.below hk)
      have RN := Lib.hid (RN.out.below hk)
      have RM := Lib.hid (RM.out.below hk)
      have RP := Lib.hid (RP.out.below hk)
      have RQ := Lib.hid (RQ.out.below hk)
      have hb := below2 hb hk hb.size
      clear hk
      have td2 : decide (V = V) = true := decide_eq_true rfl
      go_wp2_with fail
      go_ret
      exact ⟨rfl, hb⟩
end Go.Proofs.YtdbifbgjbfnfmaaGreatDoor
