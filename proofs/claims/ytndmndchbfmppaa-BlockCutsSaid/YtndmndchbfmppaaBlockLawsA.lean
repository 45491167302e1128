/-
  Layer 9 (block): the law BlockCuts returns true.
-/
import Derived.Test.YtndmndchbfmppaaBlockUse
import Derived.Test.YtndmndchbfmppaaBlockFacts
namespace Go.Proofs.Ytndmndchbfmppaa
open Go.RowKit Go.Deep
attribute [local go_sem] str_size str_append str_toList str_get str_extract
set_option linter.unusedVariables false
set_option linter.unusedSimpArgs false
set_option maxRecDepth 100000 in
set_option maxHeartbeats 2000000 in
theorem law_BlockCuts (a0 : Int) (a1 : Int) (a2 : Int) (w : World) (w0 : (Lit.int .u8 a0).wf = true) (w1 : (Lit.int .u8 a1).wf = true) (w2 : (Lit.int .u64 a2).wf = true) :
    Calls Try.prog 6 #[.int .u8 a0, .int .u8 a1, .int .u64 a2] w fun e w' => e = .returned (.bool true) ∧ Below w.heap.size w w' := by
  obtain ⟨r1, r2⟩ := bounds_u8 w0
  obtain ⟨r3, r4⟩ := bounds_u8 w1
  obtain ⟨r5, r6⟩ := bounds_u64 w2
  obtain ⟨n, rfl⟩ : ∃ k : Nat, a0 = k := ⟨a0.toNat, by omega⟩
  obtain ⟨m, rfl⟩ : ∃ k : Nat, a1 = k := ⟨a1.toNat, by omega⟩
  obtain ⟨keep, rfl⟩ : ∃ k : Nat, a2 = k := ⟨a2.toNat, by omega⟩
  obtain ⟨K, hK⟩ : ∃ K, n % 20 = K := ⟨_, rfl⟩
  obtain ⟨M, hM⟩ : ∃ M, m % 30 = M := ⟨_, rfl⟩
  have d1 : (n : Int) % 20 = (K : Int) := by omega
  have d2 : (m : Int) % 30 = (M : Int) := by omega
  have hK20 : K < 20 := by omega
  have hM30 : M < 30 := by omega
  have hkeep : keep < 18446744073709551616 := by omega
  clear hK hM
  have CN := Lib.hid (oNew_c 8 w w (Below.refl _ w) (by omega) (by omega))
  go_enter Try.func6, Try.ntmps6
  go_wp2_with (first
    | (go_at_call 9; refine CN.out.mono ?_; rintro e v1 ⟨q, rfl, ho⟩; have HO := Lib.hid ho; clear ho; dsimp only)
    | (go_at_call 22; refine (oCut_c HO.out (fit_new 8 900000) (n := (K : Int)) (keep := keep) (by omega) (by omega) hkeep).mono ?_; rintro e v2 ⟨rfl, ho⟩; have HO2 := Lib.hid ho; clear ho; dsimp only))
  go_loopw [9] (fun c wr => ∃ (j : Nat) (S : DSt), j ≤ M ∧ c = .int .i64 ((j + 1 : Nat) : Int) ∧ Hid (CutInv K j S ∧ Fit S (2 * j) ∧ OwnB w q S wr)) (fun c _ => M + 1 - (intOf c).toNat)
  case atStart => exact ⟨0, _, Nat.zero_le _, rfl, ⟨cut_start K keep, fit_cut (fit_new 8 0), HO2.out⟩⟩
  case round =>
    obtain ⟨j, S, hj, rfl, HS⟩ := hrel
    by_cases hlt : j < M
    · by_cases h3 : (j + 1) % 3 = 0
      · have t3 : (((j + 1 : Nat) : Int) % 3 == 0) = true := by simpa using by omega
        have t3' : (((j : Int) + 1) % 3 == 0) = true := by simpa using by omega
        by_cases hg : 0 < K ∧ K ≤ j + 1
        · have g1 : (0 : Int) < (K : Int) := by omega
          have g2 : (K : Int) ≤ (j : Int) + 1 := by omega
          obtain ⟨e1, hci⟩ := cut_flush HS.out.1
          obtain ⟨S2, hS2⟩ : ∃ S2, (flushD S).2 = S2 := ⟨_, rfl⟩
          have hfit := fit_flush HS.out.2.1
          have CF := Lib.hid (oFlush_c HS.out.2.2 (HS.out.2.1.mono (by omega)))
          rw [hS2] at CF hci hfit
          rw [e1, if_pos hg] at CF
          obtain ⟨hgo, hca⟩ := hci.2.2 (by omega)
          have HCI := Lib.hid (And.intro hci (hfit.mono (show 2 * j + 2 ≤ 900000 by omega)))
          have HFI := Lib.hid hfit
          have HGO := Lib.hid hgo
          have HCA := Lib.hid hca
          clear e1 hci hfit hS2 hgo hca
          go_wp2_with (first
            | (go_at_call 20; refine CF.out.mono ?_; rintro e v3 ⟨rfl, ho3⟩; have HO3 := Lib.hid ho3; clear ho3; dsimp only)
            | (go_at_call 13; refine (oDead_c HO3.out HCI.out.2).mono ?_; rintro e v4 ⟨rfl, ho4⟩; rw [HGO.out]; have HO4 := Lib.hid ho4; clear ho4; dsimp only)
            | (go_at_call 14; refine (oCalls_c HO4.out HCI.out.2).mono ?_; rintro e v5 ⟨rfl, ho5⟩; rw [HCA.out]; have HO5 := Lib.hid ho5; clear ho5; dsimp only))
          go_roundw
          case rel => first | exact ⟨j + 1, S2, by omega, by go_num, ⟨HCI.out.1, HFI.out.mono (by omega), HO5.out⟩⟩ | exact ⟨j + 1, by omega, by omega, S2, ⟨HCI.out.1, HFI.out.mono (by omega), HO5.out⟩⟩
          case measure => simp [intOf]; omega
        · by_cases g0 : K = 0
          · have g1 : ¬ (0 : Int) < (K : Int) := by omega
            obtain ⟨e1, hci⟩ := cut_flush HS.out.1
            obtain ⟨S2, hS2⟩ : ∃ S2, (flushD S).2 = S2 := ⟨_, rfl⟩
            have hfit := fit_flush HS.out.2.1
            have CF := Lib.hid (oFlush_c HS.out.2.2 (HS.out.2.1.mono (by omega)))
            rw [hS2] at CF hci hfit
            rw [e1, if_neg hg] at CF
            obtain ⟨hgo, -, hca⟩ := hci.2.1 (by omega)
            have HCI := Lib.hid (And.intro hci (hfit.mono (show 2 * j + 2 ≤ 900000 by omega)))
            have HFI := Lib.hid hfit
            have HGO := Lib.hid hgo
            have HCA := Lib.hid hca
            clear e1 hci hfit hS2 hgo hca
            go_wp2_with (first
              | (go_at_call 20; refine CF.out.mono ?_; rintro e v3 ⟨rfl, ho3⟩; have HO3 := Lib.hid ho3; clear ho3; dsimp only)
              | (go_at_call 13; refine (oDead_c HO3.out HCI.out.2).mono ?_; rintro e v4 ⟨rfl, ho4⟩; rw [HGO.out]; have HO4 := Lib.hid ho4; clear ho4; dsimp only)
              | (go_at_call 14; refine (oCalls_c HO4.out HCI.out.2).mono ?_; rintro e v5 ⟨rfl, ho5⟩; rw [HCA.out]; have HO5 := Lib.hid ho5; clear ho5; dsimp only))
            go_roundw
            case rel => first | exact ⟨j + 1, S2, by omega, by go_num, ⟨HCI.out.1, HFI.out.mono (by omega), HO5.out⟩⟩ | exact ⟨j + 1, by omega, by omega, S2, ⟨HCI.out.1, HFI.out.mono (by omega), HO5.out⟩⟩
            case measure => simp [intOf]; omega
          · have g1 : (0 : Int) < (K : Int) := by omega
            have g2 : ¬ (K : Int) ≤ (j : Int) + 1 := by omega
            obtain ⟨e1, hci⟩ := cut_flush HS.out.1
            obtain ⟨S2, hS2⟩ : ∃ S2, (flushD S).2 = S2 := ⟨_, rfl⟩
            have hfit := fit_flush HS.out.2.1
            have CF := Lib.hid (oFlush_c HS.out.2.2 (HS.out.2.1.mono (by omega)))
            rw [hS2] at CF hci hfit
            rw [e1, if_neg hg] at CF
            obtain ⟨hgo, -, hca⟩ := hci.2.1 (by omega)
            have HCI := Lib.hid (And.intro hci (hfit.mono (show 2 * j + 2 ≤ 900000 by omega)))
            have HFI := Lib.hid hfit
            have HGO := Lib.hid hgo
            have HCA := Lib.hid hca
            clear e1 hci hfit hS2 hgo hca
            go_wp2_with (first
              | (go_at_call 20; refine CF.out.mono ?_; rintro e v3 ⟨rfl, ho3⟩; have HO3 := Lib.hid ho3; clear ho3; dsimp only)
              | (go_at_call 13; refine (oDead_c HO3.out HCI.out.2).mono ?_; rintro e v4 ⟨rfl, ho4⟩; rw [HGO.out]; have HO4 := Lib.hid ho4; clear ho4; dsimp only)
              | (go_at_call 14; refine (oCalls_c HO4.out HCI.out.2).mono ?_; rintro e v5 ⟨rfl, ho5⟩; rw [HCA.out]; have HO5 := Lib.hid ho5; clear ho5; dsimp only))
            go_roundw
            case rel => first | exact ⟨j + 1, S2, by omega, by go_num, ⟨HCI.out.1, HFI.out.mono (by omega), HO5.out⟩⟩ | exact ⟨j + 1, by omega, by omega, S2, ⟨HCI.out.1, HFI.out.mono (by omega), HO5.out⟩⟩
            case measure => simp [intOf]; omega
      · have t3 : (((j + 1 : Nat) : Int) % 3 == 0) = false := by rw [beq_eq_false_iff_ne]; omega
        have t3' : (((j : Int) + 1) % 3 == 0) = false := by rw [beq_eq_false_iff_ne]; omega
        by_cases hg : 0 < K ∧ K ≤ j + 1
        · have g1 : (0 : Int) < (K : Int) := by omega
          have g2 : (K : Int) ≤ (j : Int) + 1 := by omega
          obtain ⟨p, hp⟩ : ∃ p, (j + 1) % 8 = p := ⟨_, rfl⟩
          have hp8 : p < 8 := by omega
          have t8 : ((j + 1 : Nat) : Int) % 8 = (p : Int) := by omega
          have t8' : ((j : Int) + 1) % 8 = (p : Int) := by omega
          obtain ⟨e1, hci⟩ := cut_write HS.out.1 (i := (p : Int)) (s := [120]) (by simp; omega)
          obtain ⟨S2, hS2⟩ : ∃ S2, (writeD S (p : Int) [120]).2 = S2 := ⟨_, rfl⟩
          have hfit := fit_write (i := (p : Int)) (s := [120]) HS.out.2.1
          have CF := Lib.hid (oWrite_c HS.out.2.2 (HS.out.2.1.mono (by omega)) (i := (p : Int)) (s := [120]) (by omega) (by omega) (by simp))
          rw [hS2] at CF hci hfit
          rw [e1, if_pos hg] at CF
          obtain ⟨hgo, hca⟩ := hci.2.2 (by omega)
          have HCI := Lib.hid (And.intro hci (hfit.mono (show 2 * j + 2 ≤ 900000 by omega)))
          have HFI := Lib.hid hfit
          have HGO := Lib.hid hgo
          have HCA := Lib.hid hca
          clear e1 hci hfit hS2 hgo hca
          go_wp2_with (first
            | (go_at_call 19; refine CF.out.mono ?_; rintro e v3 ⟨rfl, ho3⟩; have HO3 := Lib.hid ho3; clear ho3; dsimp only)
            | (go_at_call 13; refine (oDead_c HO3.out HCI.out.2).mono ?_; rintro e v4 ⟨rfl, ho4⟩; rw [HGO.out]; have HO4 := Lib.hid ho4; clear ho4; dsimp only)
            | (go_at_call 14; refine (oCalls_c HO4.out HCI.out.2).mono ?_; rintro e v5 ⟨rfl, ho5⟩; rw [HCA.out]; have HO5 := Lib.hid ho5; clear ho5; dsimp only))
          go_roundw
          case rel => first | exact ⟨j + 1, S2, by omega, by go_num, ⟨HCI.out.1, HFI.out.mono (by omega), HO5.out⟩⟩ | exact ⟨j + 1, by omega, by omega, S2, ⟨HCI.out.1, HFI.out.mono (by omega), HO5.out⟩⟩
          case measure => simp [intOf]; omega
        · by_cases g0 : K = 0
          · have g1 : ¬ (0 : Int) < (K : Int) := by omega
            obtain ⟨p, hp⟩ : ∃ p, (j + 1) % 8 = p := ⟨_, rfl⟩
            have hp8 : p < 8 := by omega
            have t8 : ((j + 1 : Nat) : Int) % 8 = (p : Int) := by omega
            have t8' : ((j : Int) + 1) % 8 = (p : Int) := by omega
            obtain ⟨e1, hci⟩ := cut_write HS.out.1 (i := (p : Int)) (s := [120]) (by simp; omega)
            obtain ⟨S2, hS2⟩ : ∃ S2, (writeD S (p : Int) [120]).2 = S2 := ⟨_, rfl⟩
            have hfit := fit_write (i := (p : Int)) (s := [120]) HS.out.2.1
            have CF := Lib.hid (oWrite_c HS.out.2.2 (HS.out.2.1.mono (by omega)) (i := (p : Int)) (s := [120]) (by omega) (by omega) (by simp))
            rw [hS2] at CF hci hfit
            rw [e1, if_neg hg] at CF
            obtain ⟨hgo, -, hca⟩ := hci.2.1 (by omega)
            have HCI := Lib.hid (And.intro hci (hfit.mono (show 2 * j + 2 ≤ 900000 by omega)))
            have HFI := Lib.hid hfit
            have HGO := Lib.hid hgo
            have HCA := Lib.hid hca
            clear e1 hci hfit hS2 hgo hca
            go_wp2_with (first
              | (go_at_call 19; refine CF.out.mono ?_; rintro e v3 ⟨rfl, ho3⟩; have HO3 := Lib.hid ho3; clear ho3; dsimp only)
              | (go_at_call 13; refine (oDead_c HO3.out HCI.out.2).mono ?_; rintro e v4 ⟨rfl, ho4⟩; rw [HGO.out]; have HO4 := Lib.hid ho4; clear ho4; dsimp only)
              | (go_at_call 14; refine (oCalls_c HO4.out HCI.out.2).mono ?_; rintro e v5 ⟨rfl, ho5⟩; rw [HCA.out]; have HO5 := Lib.hid ho5; clear ho5; dsimp only))
            go_roundw
            case rel => first | exact ⟨j + 1, S2, by omega, by go_num, ⟨HCI.out.1, HFI.out.mono (by omega), HO5.out⟩⟩ | exact ⟨j + 1, by omega, by omega, S2, ⟨HCI.out.1, HFI.out.mono (by omega), HO5.out⟩⟩
            case measure => simp [intOf]; omega
          · have g1 : (0 : Int) < (K : Int) := by omega
            have g2 : ¬ (K : Int) ≤ (j : Int) + 1 := by omega
            obtain ⟨p, hp⟩ : ∃ p, (j + 1) % 8 = p := ⟨_, rfl⟩
            have hp8 : p < 8 := by omega
            have t8 : ((j + 1 : Nat) : Int) % 8 = (p : Int) := by omega
            have t8' : ((j : Int) + 1) % 8 = (p : Int) := by omega
            obtain ⟨e1, hci⟩ := cut_write HS.out.1 (i := (p : Int)) (s := [120]) (by simp; omega)
            obtain ⟨S2, hS2⟩ : ∃ S2, (writeD S (p : Int) [120]).2 = S2 := ⟨_, rfl⟩
            have hfit := fit_write (i := (p : Int)) (s := [120]) HS.out.2.1
            have CF := Lib.hid (oWrite_c HS.out.2.2 (HS.out.2.1.mono (by omega)) (i := (p : Int)) (s := [120]) (by omega) (by omega) (by simp))
            rw [hS2] at CF hci hfit
            rw [e1, if_neg hg] at CF
            obtain ⟨hgo, -, hca⟩ := hci.2.1 (by omega)
            have HCI := Lib.hid (And.intro hci (hfit.mono (show 2 * j + 2 ≤ 900000 by omega)))
            have HFI := Lib.hid hfit
            have HGO := Lib.hid hgo
            have HCA := Lib.hid hca
            clear e1 hci hfit hS2 hgo hca
            go_wp2_with (first
              | (go_at_call 19; refine CF.out.mono ?_; rintro e v3 ⟨rfl, ho3⟩; have HO3 := Lib.hid ho3; clear ho3; dsimp only)
              | (go_at_call 13; refine (oDead_c HO3.out HCI.out.2).mono ?_; rintro e v4 ⟨rfl, ho4⟩; rw [HGO.out]; have HO4 := Lib.hid ho4; clear ho4; dsimp only)
              | (go_at_call 14; refine (oCalls_c HO4.out HCI.out.2).mono ?_; rintro e v5 ⟨rfl, ho5⟩; rw [HCA.out]; have HO5 := Lib.hid ho5; clear ho5; dsimp only))
            go_roundw
            case rel => first | exact ⟨j + 1, S2, by omega, by go_num, ⟨HCI.out.1, HFI.out.mono (by omega), HO5.out⟩⟩ | exact ⟨j + 1, by omega, by omega, S2, ⟨HCI.out.1, HFI.out.mono (by omega), HO5.out⟩⟩
            case measure => simp [intOf]; omega
    · obtain rfl : j = M := by omega
      have hn8 := HS.out.1.1
      have hfit := HS.out.2.1.mono (show 2 * j ≤ 800000 by omega)
      obtain ⟨k1, k2⟩ := down_gone S keep
      obtain ⟨S2, hS2⟩ : ∃ S2, downD S keep = S2 := ⟨_, rfl⟩
      have hf2 := fit_down (keep := keep) hfit
      have CC := Lib.hid (oCrash_c HS.out.2.2 (hfit.mono (by omega)) (keep := keep) hkeep)
      rw [hS2] at k1 k2 hf2 CC
      have hcp := calm_power (S := S2) (n := 8) (by rw [k2]; exact hn8)
      have hw := calm_write hcp (i := 0) (s := []) (by simp)
      have hf3 := fit_power hf2
      obtain ⟨S3, hS3⟩ : ∃ S3, powerD S2 = S3 := ⟨_, rfl⟩
      have CP := Lib.hid (fun W (hW : OwnB w q S2 W) => oPower_c hW (hf2.mono (by omega)))
      rw [hS3] at hcp hw hf3 CP
      have hf4 := fit_write (i := 0) (s := []) hf3
      have CW := Lib.hid (fun W (hW : OwnB w q S3 W) => oWrite_c hW (hf3.mono (by omega)) (i := 0) (s := []) (by omega) (by omega) (by simp))
      obtain ⟨hw1, hw2⟩ := hw
      rw [hw1] at CW hf4
      obtain ⟨S4, hS4⟩ : ∃ S4, ({ putD S3 (0 : Int).toNat [] with calls := S3.calls + 1 } : DSt) = S4 := ⟨_, rfl⟩
      simp only [hS4] at CW hf4 hw2
      have hw8 := calm_write_bad hw2 (i := 8) (s := []) (by simp)
      have CW2 := Lib.hid (fun W (hW : OwnB w q S4 W) => oWrite_c hW (hf4.mono (by omega)) (i := 8) (s := []) (by omega) (by omega) (by simp))
      rw [hw8] at CW2
      have HK1 := Lib.hid k1
      have HG3 := Lib.hid hcp.1
      have HF2 := Lib.hid (hf2.mono (show 800000 ≤ 900000 by omega))
      have HF3 := Lib.hid (hf3.mono (show 800000 ≤ 900000 by omega))
      clear hn8 hfit k1 k2 hS2 hf2 hcp hw1 hw2 hf3 hS3 hf4 hS4 hw8 hlt
      go_wp2_with (first
        | (go_at_call 21; refine CC.out.mono ?_; rintro e v3 ⟨rfl, ho3⟩; have HO3 := Lib.hid ho3; clear ho3; dsimp only)
        | (go_at_call 15; refine (CP.out _ HO4.out).mono ?_; rintro e v5 ⟨rfl, ho5⟩; have HO5 := Lib.hid ho5; clear ho5; dsimp only)
        | (go_at_call_of 19 (Value.int .i64 8); refine (CW2.out _ HO7.out).mono ?_; rintro e v8 ⟨rfl, ho8⟩; have HO8 := Lib.hid ho8; clear ho8; dsimp only)
        | (go_at_call 19; refine (CW.out _ HO6.out).mono ?_; rintro e v7 ⟨rfl, ho7⟩; have HO7 := Lib.hid ho7; clear ho7; dsimp only)
        | (go_at_call 13; refine (oDead_c HO5.out HF3.out).mono ?_; rintro e v6 ⟨rfl, ho6⟩; rw [HG3.out]; have HO6 := Lib.hid ho6; clear ho6; dsimp only)
        | (go_at_call 13; refine (oDead_c HO3.out HF2.out).mono ?_; rintro e v4 ⟨rfl, ho4⟩; rw [HK1.out]; have HO4 := Lib.hid ho4; clear ho4; dsimp only))
      go_ret
      exact ⟨by simp [go_sem], HO8.out.bel⟩
end Go.Proofs.Ytndmndchbfmppaa
