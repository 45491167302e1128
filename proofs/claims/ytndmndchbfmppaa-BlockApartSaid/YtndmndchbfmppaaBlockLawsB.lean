/-
  Layer 9 (block): the law BlockApart returns true.
-/
import Derived.Test.YtndmndchbfmppaaBlockUse
import Derived.Test.YtndmndchbfmppaaBlockFacts
import Derived.Test.YtndmndchbfmppaaHeld
namespace Go.Proofs.Ytndmndchbfmppaa
open Go.RowKit Go.Deep
attribute [local go_sem] str_size str_append str_toList str_get str_extract
set_option linter.unusedVariables false
set_option linter.unusedSimpArgs false
set_option maxRecDepth 100000 in
set_option maxHeartbeats 4000000 in
theorem law_BlockApart (a0 : Option Addr) (len0 cap0 : Nat) (z0 : List BStp) (a1 : Int) (w : World) (hl0 : len0 ≤ maxLen) (w0 : BsAt w a0 len0 z0) (w1 : (Lit.int .u8 a1).wf = true) :
    Calls Try.prog 7 #[.slice a0 len0 cap0, .int .u8 a1] w fun e w' => e = .returned (.bool true) ∧ Below w.heap.size w w' := by
  unfold maxLen at hl0
  obtain ⟨r1, r2⟩ := bounds_u8 w1
  obtain ⟨n, rfl⟩ : ∃ k : Nat, a1 = k := ⟨a1.toNat, by omega⟩
  have hle := w0.1
  subst hle
  have CL := Lib.hid (bheavy_c a0 z0.length cap0 z0 w (by omega) w0)
  cases hB : heavyB z0 with
  | true =>
    rw [hB] at CL
    clear hB
    go_enter Try.func7, Try.ntmps7
    go_wp2_with (go_at_call 8; refine CL.out.mono ?_; rintro e v1 ⟨rfl, rfl⟩; dsimp only)
    go_ret
    exact ⟨rfl, Below.refl _ _⟩
  | false =>
    have hsm := heavyB_small hB
    rw [hB] at CL
    have HW := Lib.hid w0
    obtain ⟨N, hN⟩ : ∃ N, z0.length = N := ⟨_, rfl⟩
    have HN := Lib.hid hN
    rw [hN] at CL hsm ⊢
    obtain ⟨Z, hZ⟩ : ∃ Z, n % 12 = Z := ⟨_, rfl⟩
    have d1 : (n : Int) % 12 = (Z : Int) := by omega
    have hZ12 : Z < 12 := by omega
    have CN := Lib.hid (oNew_c 12 w w (Below.refl _ w) (by omega) (by omega))
    clear hB w0 hN hl0 hZ
    go_enter Try.func7, Try.ntmps7
    go_wp2_with (first
      | (go_at_call 8; refine CL.out.mono ?_; rintro e v1 ⟨rfl, rfl⟩; dsimp only)
      | (go_at_call 9; refine CN.out.mono ?_; rintro e v1 ⟨q, rfl, ho⟩; have HO := Lib.hid ho; clear ho; dsimp only))
    go_loopw [7, 8] (fun v c wr => ∃ (i : Nat) (S : DSt) (last : Byts), i ≤ N ∧ c = .int .i64 i ∧ v = .string (str last) ∧ Hid (Calm S 12 ∧ Fit S (2 * i) ∧ topD S Z = last ∧ OwnB w q S wr)) (fun _ c _ => N - (intOf c).toNat)
    case atStart => exact ⟨0, _, [], Nat.zero_le _, rfl, rfl, ⟨calm_new, fit_new 12 0, rfl, HO.out⟩⟩
    case round =>
      obtain ⟨i, S, last, hi, rfl, rfl, HS⟩ := hrel
      by_cases hlt : i < N
      · have hltz : i < z0.length := by have := HN.out; omega
        have hb := HS.out.2.2.2.bel
        obtain ⟨⟨s1, s2, s3, s4, s5, s6⟩, ad, rfl, hblk, -, -, -, -⟩ := HW.out.2 i hltz
        have HC : Hid (∀ W, Below w.heap.size w W → W.cell? (ad.add (i * 4)) = some (.int .i64 z0[i].1) ∧ W.cell? ⟨(ad.add (i * 4)).block, (ad.add (i * 4)).off + 1, none⟩ = some (.int .i64 z0[i].2.1) ∧ W.cell? ⟨(ad.add (i * 4)).block, (ad.add (i * 4)).off + 2, none⟩ = some (.string (str z0[i].2.2.1))) := fun W hW => by
          obtain ⟨_, ad', ea, _, h3, h4, h5, h6⟩ := (HW.out.below hW).2 i hltz
          injection ea with ea
          subst ea
          exact ⟨h3, h4, h5⟩
        obtain ⟨kd, hkd⟩ : ∃ kd, (z0[i]'hltz).1 = kd := ⟨_, rfl⟩
        obtain ⟨I, hI⟩ : ∃ I, (z0[i]'hltz).2.1 = I := ⟨_, rfl⟩
        obtain ⟨s, hs⟩ : ∃ s, (z0[i]'hltz).2.2.1 = s := ⟨_, rfl⟩
        simp only [hkd, hI, hs] at HC s1 s3 s4 s5 s6
        obtain ⟨x3, x4, x5⟩ := HC.out _ hb
        have hcalm := HS.out.1
        have hfit := HS.out.2.1
        have htop := HS.out.2.2.1
        clear hkd hI hs
        by_cases k0 : kd = 0
        · have t0 : (kd == 0) = true := by simpa using k0
          have HO2 := Lib.hid HS.out.2.2.2
          by_cases hbad : I < 0 ∨ (12 : Int) ≤ I ∨ 64 < s.length
          · have CW := Lib.hid (fun W (hW : OwnB w q S W) => oWrite_c hW (hfit.mono (by omega)) s5 s6 s1)
            rw [calm_write_bad hcalm hbad] at CW
            have HT2 := Lib.hid (And.intro hcalm (And.intro (hfit.mono (show 2 * i ≤ 2 * i + 2 by omega)) htop))
            clear hcalm hfit htop
            go_wp2_with fail
            refine wp_region_held_drew (S := fun wx => wx.cell? ⟨(ad.add (i * 4)).block, (ad.add (i * 4)).off + 1, none⟩ = some (.int .i64 I) ∧ wx.cell? ⟨(ad.add (i * 4)).block, (ad.add (i * 4)).off + 2, none⟩ = some (.string (str s)) ∧ True) (by kernel_rfl) ⟨x4, x5, trivial⟩ (fun hHeld => ?_)
            refine held_w (i := 0) (d := some 32) (v := ?_) rfl (by kernel_rfl) (by kernel_rfl) (by kernel_rfl) (fun _ _ _ h => h) (by rfl) ?_ hHeld ?_
            rotate_left
            · intro w' hSw; obtain ⟨q0, q1, q2⟩ := hSw; simp only [List.getElem?_toArray, List.getElem?_cons_zero, List.getElem?_cons_succ]; go_simp; try with_reducible rfl
            try simp only [Act.put, List.setIfInBounds_toArray, List.set_cons_zero, List.set_cons_succ]
            refine held_w (i := 1) (d := some 33) (v := ?_) rfl (by kernel_rfl) (by kernel_rfl) (by kernel_rfl) (fun _ _ _ h => h) (by rfl) ?_ hHeld ?_
            rotate_left
            · intro w' hSw; obtain ⟨q0, q1, q2⟩ := hSw; simp only [List.getElem?_toArray, List.getElem?_cons_zero, List.getElem?_cons_succ]; go_simp; try with_reducible rfl
            try simp only [Act.put, List.setIfInBounds_toArray, List.set_cons_zero, List.set_cons_succ]
            refine held_w (i := 2) (d := some 34) (v := ?_) rfl (by kernel_rfl) (by kernel_rfl) (by kernel_rfl) (fun _ _ _ h => h) (by rfl) ?_ hHeld ?_
            rotate_left
            · intro w' hSw; obtain ⟨q0, q1, q2⟩ := hSw; simp only [List.getElem?_toArray, List.getElem?_cons_zero, List.getElem?_cons_succ]; go_simp; try with_reducible rfl
            try simp only [Act.put, List.setIfInBounds_toArray, List.set_cons_zero, List.set_cons_succ]
            refine held_w (i := 3) (d := some 35) (v := ?_) rfl (by kernel_rfl) (by kernel_rfl) (by kernel_rfl) (fun _ _ _ h => h) (by rfl) ?_ hHeld ?_
            rotate_left
            · intro w' hSw; obtain ⟨q0, q1, q2⟩ := hSw; simp only [List.getElem?_toArray, List.getElem?_cons_zero, List.getElem?_cons_succ]; go_simp; try with_reducible rfl
            try simp only [Act.put, List.setIfInBounds_toArray, List.set_cons_zero, List.set_cons_succ]
            refine held_w (i := 4) (d := some 36) (v := ?_) rfl (by kernel_rfl) (by kernel_rfl) (by kernel_rfl) (fun _ _ _ h => h) (by rfl) ?_ hHeld ?_
            rotate_left
            · intro w' hSw; obtain ⟨q0, q1, q2⟩ := hSw; simp only [List.getElem?_toArray, List.getElem?_cons_zero, List.getElem?_cons_succ]; go_simp; try with_reducible rfl
            try simp only [Act.put, List.setIfInBounds_toArray, List.set_cons_zero, List.set_cons_succ]
            refine held_w (i := 5) (d := some 37) (v := ?_) rfl (by kernel_rfl) (by kernel_rfl) (by kernel_rfl) (fun _ _ _ h => h) (by rfl) ?_ hHeld ?_
            rotate_left
            · intro w' hSw; obtain ⟨q0, q1, q2⟩ := hSw; simp only [List.getElem?_toArray, List.getElem?_cons_zero, List.getElem?_cons_succ]; go_simp; try with_reducible rfl
            try simp only [Act.put, List.setIfInBounds_toArray, List.set_cons_zero, List.set_cons_succ]
            refine held_w (i := 6) (d := some 38) (v := ?_) rfl (by kernel_rfl) (by kernel_rfl) (by kernel_rfl) (fun _ _ _ h => h) (by rfl) ?_ hHeld ?_
            rotate_left
            · intro w' hSw; obtain ⟨q0, q1, q2⟩ := hSw; simp only [List.getElem?_toArray, List.getElem?_cons_zero, List.getElem?_cons_succ]; go_simp; try with_reducible rfl
            try simp only [Act.put, List.setIfInBounds_toArray, List.set_cons_zero, List.set_cons_succ]
            refine held_w (i := 7) (d := some 39) (v := ?_) rfl (by kernel_rfl) (by kernel_rfl) (by kernel_rfl) (fun _ _ _ h => h) (by rfl) ?_ hHeld ?_
            rotate_left
            · intro w' hSw; obtain ⟨q0, q1, q2⟩ := hSw; simp only [List.getElem?_toArray, List.getElem?_cons_zero, List.getElem?_cons_succ]; go_simp; try with_reducible rfl
            try simp only [Act.put, List.setIfInBounds_toArray, List.set_cons_zero, List.set_cons_succ]
            refine held_w (i := 8) (d := some 40) (v := ?_) rfl (by kernel_rfl) (by kernel_rfl) (by kernel_rfl) (fun _ _ _ h => h) (by rfl) ?_ hHeld ?_
            rotate_left
            · intro w' hSw; obtain ⟨q0, q1, q2⟩ := hSw; simp only [List.getElem?_toArray, List.getElem?_cons_zero, List.getElem?_cons_succ]; go_simp; try with_reducible rfl
            try simp only [Act.put, List.setIfInBounds_toArray, List.set_cons_zero, List.set_cons_succ]
            refine held_w (i := 9) (d := some 41) (v := ?_) rfl (by kernel_rfl) (by kernel_rfl) (by kernel_rfl) (fun _ _ _ h => h) (by rfl) ?_ hHeld ?_
            rotate_left
            · intro w' hSw; obtain ⟨q0, q1, q2⟩ := hSw; simp only [List.getElem?_toArray, List.getElem?_cons_zero, List.getElem?_cons_succ]; go_simp; try with_reducible rfl
            try simp only [Act.put, List.setIfInBounds_toArray, List.set_cons_zero, List.set_cons_succ]
            refine held_w (i := 10) (d := some 42) (v := ?_) rfl (by kernel_rfl) (by kernel_rfl) (by kernel_rfl) (fun _ _ _ h => h) (by rfl) ?_ hHeld ?_
            rotate_left
            · intro w' hSw; obtain ⟨q0, q1, q2⟩ := hSw; simp only [List.getElem?_toArray, List.getElem?_cons_zero, List.getElem?_cons_succ]; go_simp; try with_reducible rfl
            try simp only [Act.put, List.setIfInBounds_toArray, List.set_cons_zero, List.set_cons_succ]
            refine held_c (i := 11) (by kernel_rfl) (by rfl) (fun K hK => ?_)
            simp only [List.getElem?_toArray, List.getElem?_cons_zero, List.getElem?_cons_succ]
            go_simp
            refine (CW.out _ (by first | exact HO2.out | exact HO2.out.drew | exact HO2.out.drewN _)).mono ?_
            rintro e v3 ⟨rfl, ho3⟩
            have HO3 := Lib.hid ho3
            obtain ⟨y3, y4, y5⟩ := HC.out _ ho3.bel
            clear ho3
            refine hK.out _ _ ⟨y4, y5, trivial⟩ (fun hHeld => ?_)
            clear hK
            try simp only [Act.put, List.setIfInBounds_toArray, List.set_cons_zero, List.set_cons_succ]
            refine held_w (i := 12) (d := some 44) (v := ?_) rfl (by kernel_rfl) (by kernel_rfl) (by kernel_rfl) (fun _ _ _ h => h) (by rfl) ?_ hHeld ?_
            rotate_left
            · intro w' hSw; obtain ⟨q0, q1, q2⟩ := hSw; simp only [List.getElem?_toArray, List.getElem?_cons_zero, List.getElem?_cons_succ]; go_simp; try with_reducible rfl
            try simp only [Act.put, List.setIfInBounds_toArray, List.set_cons_zero, List.set_cons_succ]
            refine held_w (i := 13) (d := some 45) (v := ?_) rfl (by kernel_rfl) (by kernel_rfl) (by kernel_rfl) (fun _ _ _ h => h) (by rfl) ?_ hHeld ?_
            rotate_left
            · intro w' hSw; obtain ⟨q0, q1, q2⟩ := hSw; simp only [List.getElem?_toArray, List.getElem?_cons_zero, List.getElem?_cons_succ]; go_simp; try with_reducible rfl
            try simp only [Act.put, List.setIfInBounds_toArray, List.set_cons_zero, List.set_cons_succ]
            refine held_u (i := 14) (d := some 46) rfl (by kernel_rfl) (by kernel_rfl) (by kernel_rfl) (fun _ _ _ h => h) (by rfl) hHeld ?_
            try simp only [Act.put, List.setIfInBounds_toArray, List.set_cons_zero, List.set_cons_succ]
            refine held_u (i := 15) (d := some 47) rfl (by kernel_rfl) (by kernel_rfl) (by kernel_rfl) (fun _ _ _ h => h) (by rfl) hHeld ?_
            try simp only [Act.put, List.setIfInBounds_toArray, List.set_cons_zero, List.set_cons_succ]
            refine held_u (i := 16) (d := some 48) rfl (by kernel_rfl) (by kernel_rfl) (by kernel_rfl) (fun _ _ _ h => h) (by rfl) hHeld ?_
            try simp only [Act.put, List.setIfInBounds_toArray, List.set_cons_zero, List.set_cons_succ]
            refine held_u (i := 17) (d := some 49) rfl (by kernel_rfl) (by kernel_rfl) (by kernel_rfl) (fun _ _ _ h => h) (by rfl) hHeld ?_
            try simp only [Act.put, List.setIfInBounds_toArray, List.set_cons_zero, List.set_cons_succ]
            refine held_u (i := 18) (d := some 50) rfl (by kernel_rfl) (by kernel_rfl) (by kernel_rfl) (fun _ _ _ h => h) (by rfl) hHeld ?_
            try simp only [Act.put, List.setIfInBounds_toArray, List.set_cons_zero, List.set_cons_succ]
            refine held_u (i := 19) (d := some 51) rfl (by kernel_rfl) (by kernel_rfl) (by kernel_rfl) (fun _ _ _ h => h) (by rfl) hHeld ?_
            try simp only [Act.put, List.setIfInBounds_toArray, List.set_cons_zero, List.set_cons_succ]
            refine held_u (i := 20) (d := some 52) rfl (by kernel_rfl) (by kernel_rfl) (by kernel_rfl) (fun _ _ _ h => h) (by rfl) hHeld ?_
            try simp only [Act.put, List.setIfInBounds_toArray, List.set_cons_zero, List.set_cons_succ]
            refine held_w (i := 21) (d := some 53) (v := ?_) rfl (by kernel_rfl) (by kernel_rfl) (by kernel_rfl) (fun _ _ _ h => h) (by rfl) ?_ hHeld ?_
            rotate_left
            · intro w' hSw; obtain ⟨q0, q1, q2⟩ := hSw; simp only [List.getElem?_toArray, List.getElem?_cons_zero, List.getElem?_cons_succ]; go_simp; try with_reducible rfl
            try simp only [Act.put, List.setIfInBounds_toArray, List.set_cons_zero, List.set_cons_succ]
            refine wpAnyH_done (by kernel_rfl) ?_ _
            have CR := Lib.hid (fun W (hW : OwnB w q S W) => oRead_c hW (HT2.out.2.1.mono (by omega)) (i := (Z : Int)) (by omega) (by omega))
            rw [calm_read HT2.out.1 (by omega), Int.toNat_natCast, show (S.wt Z).getLastD (S.is Z) = last from HT2.out.2.2] at CR
            go_wp2_with (go_at_call 17; refine (CR.out _ (by first | exact HO3.out | exact HO3.out.drew | exact HO3.out.drewN _)).mono ?_; rintro e v4 ⟨rfl, ho4⟩; have HO4 := Lib.hid ho4; clear ho4; dsimp only)
            go_roundw
            case rel => first | exact ⟨i + 1, S, last, by omega, by go_num, rfl, ⟨HT2.out.1, HT2.out.2.1.mono (by omega), HT2.out.2.2, HO4.out⟩⟩ | exact ⟨_, _, Value.int .i64 ((i + 1 : Nat) : Int), ⟨i + 1, by omega, rfl, S, last, rfl, ⟨HT2.out.1, HT2.out.2.1.mono (by omega), HT2.out.2.2, HO4.out⟩⟩, rfl, rfl, by go_num⟩
            case measure => simp [intOf]; omega
          · obtain ⟨ew, hc2⟩ := calm_write hcalm hbad
            have hf2 := fit_write (i := I) (s := s) hfit
            rw [ew] at hf2
            obtain ⟨J, rfl⟩ : ∃ J : Nat, I = J := ⟨I.toNat, by omega⟩
            rw [Int.toNat_natCast] at ew hc2 hf2
            have CW := Lib.hid (fun W (hW : OwnB w q S W) => oWrite_c hW (hfit.mono (by omega)) s5 s6 s1)
            rw [ew] at CW
            obtain ⟨S2, hS2⟩ : ∃ S2, ({ putD S J s with calls := S.calls + 1 } : DSt) = S2 := ⟨_, rfl⟩
            by_cases hJZ : J = Z
            · subst hJZ
              have ht2 := top_put_same S J (S.calls + 1) s
              simp only [hS2] at CW hc2 hf2 ht2
              have HT2 := Lib.hid (And.intro hc2 (And.intro hf2 ht2))
              clear hcalm hfit htop ew hc2 hf2 ht2 hS2
              go_wp2_with fail
              refine wp_region_held_drew (S := fun wx => wx.cell? ⟨(ad.add (i * 4)).block, (ad.add (i * 4)).off + 1, none⟩ = some (.int .i64 (J : Int)) ∧ wx.cell? ⟨(ad.add (i * 4)).block, (ad.add (i * 4)).off + 2, none⟩ = some (.string (str s)) ∧ True) (by kernel_rfl) ⟨x4, x5, trivial⟩ (fun hHeld => ?_)
              refine held_w (i := 0) (d := some 32) (v := ?_) rfl (by kernel_rfl) (by kernel_rfl) (by kernel_rfl) (fun _ _ _ h => h) (by rfl) ?_ hHeld ?_
              rotate_left
              · intro w' hSw; obtain ⟨q0, q1, q2⟩ := hSw; simp only [List.getElem?_toArray, List.getElem?_cons_zero, List.getElem?_cons_succ]; go_simp; try with_reducible rfl
              try simp only [Act.put, List.setIfInBounds_toArray, List.set_cons_zero, List.set_cons_succ]
              refine held_w (i := 1) (d := some 33) (v := ?_) rfl (by kernel_rfl) (by kernel_rfl) (by kernel_rfl) (fun _ _ _ h => h) (by rfl) ?_ hHeld ?_
              rotate_left
              · intro w' hSw; obtain ⟨q0, q1, q2⟩ := hSw; simp only [List.getElem?_toArray, List.getElem?_cons_zero, List.getElem?_cons_succ]; go_simp; try with_reducible rfl
              try simp only [Act.put, List.setIfInBounds_toArray, List.set_cons_zero, List.set_cons_succ]
              refine held_w (i := 2) (d := some 34) (v := ?_) rfl (by kernel_rfl) (by kernel_rfl) (by kernel_rfl) (fun _ _ _ h => h) (by rfl) ?_ hHeld ?_
              rotate_left
              · intro w' hSw; obtain ⟨q0, q1, q2⟩ := hSw; simp only [List.getElem?_toArray, List.getElem?_cons_zero, List.getElem?_cons_succ]; go_simp; try with_reducible rfl
              try simp only [Act.put, List.setIfInBounds_toArray, List.set_cons_zero, List.set_cons_succ]
              refine held_w (i := 3) (d := some 35) (v := ?_) rfl (by kernel_rfl) (by kernel_rfl) (by kernel_rfl) (fun _ _ _ h => h) (by rfl) ?_ hHeld ?_
              rotate_left
              · intro w' hSw; obtain ⟨q0, q1, q2⟩ := hSw; simp only [List.getElem?_toArray, List.getElem?_cons_zero, List.getElem?_cons_succ]; go_simp; try with_reducible rfl
              try simp only [Act.put, List.setIfInBounds_toArray, List.set_cons_zero, List.set_cons_succ]
              refine held_w (i := 4) (d := some 36) (v := ?_) rfl (by kernel_rfl) (by kernel_rfl) (by kernel_rfl) (fun _ _ _ h => h) (by rfl) ?_ hHeld ?_
              rotate_left
              · intro w' hSw; obtain ⟨q0, q1, q2⟩ := hSw; simp only [List.getElem?_toArray, List.getElem?_cons_zero, List.getElem?_cons_succ]; go_simp; try with_reducible rfl
              try simp only [Act.put, List.setIfInBounds_toArray, List.set_cons_zero, List.set_cons_succ]
              refine held_w (i := 5) (d := some 37) (v := ?_) rfl (by kernel_rfl) (by kernel_rfl) (by kernel_rfl) (fun _ _ _ h => h) (by rfl) ?_ hHeld ?_
              rotate_left
              · intro w' hSw; obtain ⟨q0, q1, q2⟩ := hSw; simp only [List.getElem?_toArray, List.getElem?_cons_zero, List.getElem?_cons_succ]; go_simp; try with_reducible rfl
              try simp only [Act.put, List.setIfInBounds_toArray, List.set_cons_zero, List.set_cons_succ]
              refine held_w (i := 6) (d := some 38) (v := ?_) rfl (by kernel_rfl) (by kernel_rfl) (by kernel_rfl) (fun _ _ _ h => h) (by rfl) ?_ hHeld ?_
              rotate_left
              · intro w' hSw; obtain ⟨q0, q1, q2⟩ := hSw; simp only [List.getElem?_toArray, List.getElem?_cons_zero, List.getElem?_cons_succ]; go_simp; try with_reducible rfl
              try simp only [Act.put, List.setIfInBounds_toArray, List.set_cons_zero, List.set_cons_succ]
              refine held_w (i := 7) (d := some 39) (v := ?_) rfl (by kernel_rfl) (by kernel_rfl) (by kernel_rfl) (fun _ _ _ h => h) (by rfl) ?_ hHeld ?_
              rotate_left
              · intro w' hSw; obtain ⟨q0, q1, q2⟩ := hSw; simp only [List.getElem?_toArray, List.getElem?_cons_zero, List.getElem?_cons_succ]; go_simp; try with_reducible rfl
              try simp only [Act.put, List.setIfInBounds_toArray, List.set_cons_zero, List.set_cons_succ]
              refine held_w (i := 8) (d := some 40) (v := ?_) rfl (by kernel_rfl) (by kernel_rfl) (by kernel_rfl) (fun _ _ _ h => h) (by rfl) ?_ hHeld ?_
              rotate_left
              · intro w' hSw; obtain ⟨q0, q1, q2⟩ := hSw; simp only [List.getElem?_toArray, List.getElem?_cons_zero, List.getElem?_cons_succ]; go_simp; try with_reducible rfl
              try simp only [Act.put, List.setIfInBounds_toArray, List.set_cons_zero, List.set_cons_succ]
              refine held_w (i := 9) (d := some 41) (v := ?_) rfl (by kernel_rfl) (by kernel_rfl) (by kernel_rfl) (fun _ _ _ h => h) (by rfl) ?_ hHeld ?_
              rotate_left
              · intro w' hSw; obtain ⟨q0, q1, q2⟩ := hSw; simp only [List.getElem?_toArray, List.getElem?_cons_zero, List.getElem?_cons_succ]; go_simp; try with_reducible rfl
              try simp only [Act.put, List.setIfInBounds_toArray, List.set_cons_zero, List.set_cons_succ]
              refine held_w (i := 10) (d := some 42) (v := ?_) rfl (by kernel_rfl) (by kernel_rfl) (by kernel_rfl) (fun _ _ _ h => h) (by rfl) ?_ hHeld ?_
              rotate_left
              · intro w' hSw; obtain ⟨q0, q1, q2⟩ := hSw; simp only [List.getElem?_toArray, List.getElem?_cons_zero, List.getElem?_cons_succ]; go_simp; try with_reducible rfl
              try simp only [Act.put, List.setIfInBounds_toArray, List.set_cons_zero, List.set_cons_succ]
              refine held_c (i := 11) (by kernel_rfl) (by rfl) (fun K hK => ?_)
              simp only [List.getElem?_toArray, List.getElem?_cons_zero, List.getElem?_cons_succ]
              go_simp
              refine (CW.out _ (by first | exact HO2.out | exact HO2.out.drew | exact HO2.out.drewN _)).mono ?_
              rintro e v3 ⟨rfl, ho3⟩
              have HO3 := Lib.hid ho3
              obtain ⟨y3, y4, y5⟩ := HC.out _ ho3.bel
              clear ho3
              refine hK.out _ _ ⟨y4, y5, trivial⟩ (fun hHeld => ?_)
              clear hK
              try simp only [Act.put, List.setIfInBounds_toArray, List.set_cons_zero, List.set_cons_succ]
              refine held_w (i := 12) (d := some 44) (v := ?_) rfl (by kernel_rfl) (by kernel_rfl) (by kernel_rfl) (fun _ _ _ h => h) (by rfl) ?_ hHeld ?_
              rotate_left
              · intro w' hSw; obtain ⟨q0, q1, q2⟩ := hSw; simp only [List.getElem?_toArray, List.getElem?_cons_zero, List.getElem?_cons_succ]; go_simp; try with_reducible rfl
              try simp only [Act.put, List.setIfInBounds_toArray, List.set_cons_zero, List.set_cons_succ]
              refine held_w (i := 13) (d := some 45) (v := ?_) rfl (by kernel_rfl) (by kernel_rfl) (by kernel_rfl) (fun _ _ _ h => h) (by rfl) ?_ hHeld ?_
              rotate_left
              · intro w' hSw; obtain ⟨q0, q1, q2⟩ := hSw; simp only [List.getElem?_toArray, List.getElem?_cons_zero, List.getElem?_cons_succ]; go_simp; try with_reducible rfl
              try simp only [Act.put, List.setIfInBounds_toArray, List.set_cons_zero, List.set_cons_succ]
              refine held_w (i := 14) (d := some 46) (v := ?_) rfl (by kernel_rfl) (by kernel_rfl) (by kernel_rfl) (fun _ _ _ h => h) (by rfl) ?_ hHeld ?_
              rotate_left
              · intro w' hSw; obtain ⟨q0, q1, q2⟩ := hSw; simp only [List.getElem?_toArray, List.getElem?_cons_zero, List.getElem?_cons_succ]; go_simp; try with_reducible rfl
              try simp only [Act.put, List.setIfInBounds_toArray, List.set_cons_zero, List.set_cons_succ]
              refine held_w (i := 15) (d := some 47) (v := ?_) rfl (by kernel_rfl) (by kernel_rfl) (by kernel_rfl) (fun _ _ _ h => h) (by rfl) ?_ hHeld ?_
              rotate_left
              · intro w' hSw; obtain ⟨q0, q1, q2⟩ := hSw; simp only [List.getElem?_toArray, List.getElem?_cons_zero, List.getElem?_cons_succ]; go_simp; try with_reducible rfl
              try simp only [Act.put, List.setIfInBounds_toArray, List.set_cons_zero, List.set_cons_succ]
              refine held_w (i := 16) (d := some 48) (v := ?_) rfl (by kernel_rfl) (by kernel_rfl) (by kernel_rfl) (fun _ _ _ h => h) (by rfl) ?_ hHeld ?_
              rotate_left
              · intro w' hSw; obtain ⟨q0, q1, q2⟩ := hSw; simp only [List.getElem?_toArray, List.getElem?_cons_zero, List.getElem?_cons_succ]; go_simp; try with_reducible rfl
              try simp only [Act.put, List.setIfInBounds_toArray, List.set_cons_zero, List.set_cons_succ]
              refine held_w (i := 17) (d := some 49) (v := ?_) rfl (by kernel_rfl) (by kernel_rfl) (by kernel_rfl) (fun _ _ _ h => h) (by rfl) ?_ hHeld ?_
              rotate_left
              · intro w' hSw; obtain ⟨q0, q1, q2⟩ := hSw; simp only [List.getElem?_toArray, List.getElem?_cons_zero, List.getElem?_cons_succ]; go_simp; try with_reducible rfl
              try simp only [Act.put, List.setIfInBounds_toArray, List.set_cons_zero, List.set_cons_succ]
              refine held_w (i := 18) (d := some 50) (v := ?_) rfl (by kernel_rfl) (by kernel_rfl) (by kernel_rfl) (fun _ _ _ h => h) (by rfl) ?_ hHeld ?_
              rotate_left
              · intro w' hSw; obtain ⟨q0, q1, q2⟩ := hSw; simp only [List.getElem?_toArray, List.getElem?_cons_zero, List.getElem?_cons_succ]; go_simp; try with_reducible rfl
              try simp only [Act.put, List.setIfInBounds_toArray, List.set_cons_zero, List.set_cons_succ]
              refine held_w (i := 19) (d := some 51) (v := ?_) rfl (by kernel_rfl) (by kernel_rfl) (by kernel_rfl) (fun _ _ _ h => h) (by rfl) ?_ hHeld ?_
              rotate_left
              · intro w' hSw; obtain ⟨q0, q1, q2⟩ := hSw; simp only [List.getElem?_toArray, List.getElem?_cons_zero, List.getElem?_cons_succ]; go_simp; try with_reducible rfl
              try simp only [Act.put, List.setIfInBounds_toArray, List.set_cons_zero, List.set_cons_succ]
              refine held_w (i := 20) (d := some 52) (v := ?_) rfl (by kernel_rfl) (by kernel_rfl) (by kernel_rfl) (fun _ _ _ h => h) (by rfl) ?_ hHeld ?_
              rotate_left
              · intro w' hSw; obtain ⟨q0, q1, q2⟩ := hSw; simp only [List.getElem?_toArray, List.getElem?_cons_zero, List.getElem?_cons_succ]; go_simp; try with_reducible rfl
              try simp only [Act.put, List.setIfInBounds_toArray, List.set_cons_zero, List.set_cons_succ]
              refine held_w (i := 21) (d := some 53) (v := ?_) rfl (by kernel_rfl) (by kernel_rfl) (by kernel_rfl) (fun _ _ _ h => h) (by rfl) ?_ hHeld ?_
              rotate_left
              · intro w' hSw; obtain ⟨q0, q1, q2⟩ := hSw; simp only [List.getElem?_toArray, List.getElem?_cons_zero, List.getElem?_cons_succ]; go_simp; try with_reducible rfl
              try simp only [Act.put, List.setIfInBounds_toArray, List.set_cons_zero, List.set_cons_succ]
              refine wpAnyH_done (by kernel_rfl) ?_ _
              have CR := Lib.hid (fun W (hW : OwnB w q S2 W) => oRead_c hW (HT2.out.2.1.mono (by omega)) (i := (J : Int)) (by omega) (by omega))
              rw [calm_read HT2.out.1 (by omega), Int.toNat_natCast, show (S2.wt J).getLastD (S2.is J) = s from HT2.out.2.2] at CR
              go_wp2_with (go_at_call 17; refine (CR.out _ (by first | exact HO3.out | exact HO3.out.drew | exact HO3.out.drewN _)).mono ?_; rintro e v4 ⟨rfl, ho4⟩; have HO4 := Lib.hid ho4; clear ho4; dsimp only)
              go_roundw
              case rel => first | exact ⟨i + 1, S2, s, by omega, by go_num, rfl, ⟨HT2.out.1, HT2.out.2.1.mono (by omega), HT2.out.2.2, HO4.out⟩⟩ | exact ⟨_, _, Value.int .i64 ((i + 1 : Nat) : Int), ⟨i + 1, by omega, rfl, S2, s, rfl, ⟨HT2.out.1, HT2.out.2.1.mono (by omega), HT2.out.2.2, HO4.out⟩⟩, rfl, rfl, by go_num⟩
              case measure => simp [intOf]; omega
            · have ht2 := (top_put_other S (S.calls + 1) s (show Z ≠ J from fun e => hJZ e.symm)).trans htop
              simp only [hS2] at CW hc2 hf2 ht2
              have HT2 := Lib.hid (And.intro hc2 (And.intro hf2 ht2))
              have t1 : ((J : Int) == (Z : Int)) = false := by rw [beq_eq_false_iff_ne]; omega
              clear hcalm hfit htop ew hc2 hf2 ht2 hS2
              go_wp2_with fail
              refine wp_region_held_drew (S := fun wx => wx.cell? ⟨(ad.add (i * 4)).block, (ad.add (i * 4)).off + 1, none⟩ = some (.int .i64 (J : Int)) ∧ wx.cell? ⟨(ad.add (i * 4)).block, (ad.add (i * 4)).off + 2, none⟩ = some (.string (str s)) ∧ True) (by kernel_rfl) ⟨x4, x5, trivial⟩ (fun hHeld => ?_)
              refine held_w (i := 0) (d := some 32) (v := ?_) rfl (by kernel_rfl) (by kernel_rfl) (by kernel_rfl) (fun _ _ _ h => h) (by rfl) ?_ hHeld ?_
              rotate_left
              · intro w' hSw; obtain ⟨q0, q1, q2⟩ := hSw; simp only [List.getElem?_toArray, List.getElem?_cons_zero, List.getElem?_cons_succ]; go_simp; try with_reducible rfl
              try simp only [Act.put, List.setIfInBounds_toArray, List.set_cons_zero, List.set_cons_succ]
              refine held_w (i := 1) (d := some 33) (v := ?_) rfl (by kernel_rfl) (by kernel_rfl) (by kernel_rfl) (fun _ _ _ h => h) (by rfl) ?_ hHeld ?_
              rotate_left
              · intro w' hSw; obtain ⟨q0, q1, q2⟩ := hSw; simp only [List.getElem?_toArray, List.getElem?_cons_zero, List.getElem?_cons_succ]; go_simp; try with_reducible rfl
              try simp only [Act.put, List.setIfInBounds_toArray, List.set_cons_zero, List.set_cons_succ]
              refine held_w (i := 2) (d := some 34) (v := ?_) rfl (by kernel_rfl) (by kernel_rfl) (by kernel_rfl) (fun _ _ _ h => h) (by rfl) ?_ hHeld ?_
              rotate_left
              · intro w' hSw; obtain ⟨q0, q1, q2⟩ := hSw; simp only [List.getElem?_toArray, List.getElem?_cons_zero, List.getElem?_cons_succ]; go_simp; try with_reducible rfl
              try simp only [Act.put, List.setIfInBounds_toArray, List.set_cons_zero, List.set_cons_succ]
              refine held_w (i := 3) (d := some 35) (v := ?_) rfl (by kernel_rfl) (by kernel_rfl) (by kernel_rfl) (fun _ _ _ h => h) (by rfl) ?_ hHeld ?_
              rotate_left
              · intro w' hSw; obtain ⟨q0, q1, q2⟩ := hSw; simp only [List.getElem?_toArray, List.getElem?_cons_zero, List.getElem?_cons_succ]; go_simp; try with_reducible rfl
              try simp only [Act.put, List.setIfInBounds_toArray, List.set_cons_zero, List.set_cons_succ]
              refine held_w (i := 4) (d := some 36) (v := ?_) rfl (by kernel_rfl) (by kernel_rfl) (by kernel_rfl) (fun _ _ _ h => h) (by rfl) ?_ hHeld ?_
              rotate_left
              · intro w' hSw; obtain ⟨q0, q1, q2⟩ := hSw; simp only [List.getElem?_toArray, List.getElem?_cons_zero, List.getElem?_cons_succ]; go_simp; try with_reducible rfl
              try simp only [Act.put, List.setIfInBounds_toArray, List.set_cons_zero, List.set_cons_succ]
              refine held_w (i := 5) (d := some 37) (v := ?_) rfl (by kernel_rfl) (by kernel_rfl) (by kernel_rfl) (fun _ _ _ h => h) (by rfl) ?_ hHeld ?_
              rotate_left
              · intro w' hSw; obtain ⟨q0, q1, q2⟩ := hSw; simp only [List.getElem?_toArray, List.getElem?_cons_zero, List.getElem?_cons_succ]; go_simp; try with_reducible rfl
              try simp only [Act.put, List.setIfInBounds_toArray, List.set_cons_zero, List.set_cons_succ]
              refine held_w (i := 6) (d := some 38) (v := ?_) rfl (by kernel_rfl) (by kernel_rfl) (by kernel_rfl) (fun _ _ _ h => h) (by rfl) ?_ hHeld ?_
              rotate_left
              · intro w' hSw; obtain ⟨q0, q1, q2⟩ := hSw; simp only [List.getElem?_toArray, List.getElem?_cons_zero, List.getElem?_cons_succ]; go_simp; try with_reducible rfl
              try simp only [Act.put, List.setIfInBounds_toArray, List.set_cons_zero, List.set_cons_succ]
              refine held_w (i := 7) (d := some 39) (v := ?_) rfl (by kernel_rfl) (by kernel_rfl) (by kernel_rfl) (fun _ _ _ h => h) (by rfl) ?_ hHeld ?_
              rotate_left
              · intro w' hSw; obtain ⟨q0, q1, q2⟩ := hSw; simp only [List.getElem?_toArray, List.getElem?_cons_zero, List.getElem?_cons_succ]; go_simp; try with_reducible rfl
              try simp only [Act.put, List.setIfInBounds_toArray, List.set_cons_zero, List.set_cons_succ]
              refine held_w (i := 8) (d := some 40) (v := ?_) rfl (by kernel_rfl) (by kernel_rfl) (by kernel_rfl) (fun _ _ _ h => h) (by rfl) ?_ hHeld ?_
              rotate_left
              · intro w' hSw; obtain ⟨q0, q1, q2⟩ := hSw; simp only [List.getElem?_toArray, List.getElem?_cons_zero, List.getElem?_cons_succ]; go_simp; try with_reducible rfl
              try simp only [Act.put, List.setIfInBounds_toArray, List.set_cons_zero, List.set_cons_succ]
              refine held_w (i := 9) (d := some 41) (v := ?_) rfl (by kernel_rfl) (by kernel_rfl) (by kernel_rfl) (fun _ _ _ h => h) (by rfl) ?_ hHeld ?_
              rotate_left
              · intro w' hSw; obtain ⟨q0, q1, q2⟩ := hSw; simp only [List.getElem?_toArray, List.getElem?_cons_zero, List.getElem?_cons_succ]; go_simp; try with_reducible rfl
              try simp only [Act.put, List.setIfInBounds_toArray, List.set_cons_zero, List.set_cons_succ]
              refine held_w (i := 10) (d := some 42) (v := ?_) rfl (by kernel_rfl) (by kernel_rfl) (by kernel_rfl) (fun _ _ _ h => h) (by rfl) ?_ hHeld ?_
              rotate_left
              · intro w' hSw; obtain ⟨q0, q1, q2⟩ := hSw; simp only [List.getElem?_toArray, List.getElem?_cons_zero, List.getElem?_cons_succ]; go_simp; try with_reducible rfl
              try simp only [Act.put, List.setIfInBounds_toArray, List.set_cons_zero, List.set_cons_succ]
              refine held_c (i := 11) (by kernel_rfl) (by rfl) (fun K hK => ?_)
              simp only [List.getElem?_toArray, List.getElem?_cons_zero, List.getElem?_cons_succ]
              go_simp
              refine (CW.out _ (by first | exact HO2.out | exact HO2.out.drew | exact HO2.out.drewN _)).mono ?_
              rintro e v3 ⟨rfl, ho3⟩
              have HO3 := Lib.hid ho3
              obtain ⟨y3, y4, y5⟩ := HC.out _ ho3.bel
              clear ho3
              refine hK.out _ _ ⟨y4, y5, trivial⟩ (fun hHeld => ?_)
              clear hK
              try simp only [Act.put, List.setIfInBounds_toArray, List.set_cons_zero, List.set_cons_succ]
              refine held_w (i := 12) (d := some 44) (v := ?_) rfl (by kernel_rfl) (by kernel_rfl) (by kernel_rfl) (fun _ _ _ h => h) (by rfl) ?_ hHeld ?_
              rotate_left
              · intro w' hSw; obtain ⟨q0, q1, q2⟩ := hSw; simp only [List.getElem?_toArray, List.getElem?_cons_zero, List.getElem?_cons_succ]; go_simp; try with_reducible rfl
              try simp only [Act.put, List.setIfInBounds_toArray, List.set_cons_zero, List.set_cons_succ]
              refine held_w (i := 13) (d := some 45) (v := ?_) rfl (by kernel_rfl) (by kernel_rfl) (by kernel_rfl) (fun _ _ _ h => h) (by rfl) ?_ hHeld ?_
              rotate_left
              · intro w' hSw; obtain ⟨q0, q1, q2⟩ := hSw; simp only [List.getElem?_toArray, List.getElem?_cons_zero, List.getElem?_cons_succ]; go_simp; try with_reducible rfl
              try simp only [Act.put, List.setIfInBounds_toArray, List.set_cons_zero, List.set_cons_succ]
              refine held_w (i := 14) (d := some 46) (v := ?_) rfl (by kernel_rfl) (by kernel_rfl) (by kernel_rfl) (fun _ _ _ h => h) (by rfl) ?_ hHeld ?_
              rotate_left
              · intro w' hSw; obtain ⟨q0, q1, q2⟩ := hSw; simp only [List.getElem?_toArray, List.getElem?_cons_zero, List.getElem?_cons_succ]; go_simp; try with_reducible rfl
              try simp only [Act.put, List.setIfInBounds_toArray, List.set_cons_zero, List.set_cons_succ]
              refine held_w (i := 15) (d := some 47) (v := ?_) rfl (by kernel_rfl) (by kernel_rfl) (by kernel_rfl) (fun _ _ _ h => h) (by rfl) ?_ hHeld ?_
              rotate_left
              · intro w' hSw; obtain ⟨q0, q1, q2⟩ := hSw; simp only [List.getElem?_toArray, List.getElem?_cons_zero, List.getElem?_cons_succ]; go_simp; try with_reducible rfl
              try simp only [Act.put, List.setIfInBounds_toArray, List.set_cons_zero, List.set_cons_succ]
              refine held_w (i := 16) (d := some 48) (v := ?_) rfl (by kernel_rfl) (by kernel_rfl) (by kernel_rfl) (fun _ _ _ h => h) (by rfl) ?_ hHeld ?_
              rotate_left
              · intro w' hSw; obtain ⟨q0, q1, q2⟩ := hSw; simp only [List.getElem?_toArray, List.getElem?_cons_zero, List.getElem?_cons_succ]; go_simp; try with_reducible rfl
              try simp only [Act.put, List.setIfInBounds_toArray, List.set_cons_zero, List.set_cons_succ]
              refine held_w (i := 17) (d := some 49) (v := ?_) rfl (by kernel_rfl) (by kernel_rfl) (by kernel_rfl) (fun _ _ _ h => h) (by rfl) ?_ hHeld ?_
              rotate_left
              · intro w' hSw; obtain ⟨q0, q1, q2⟩ := hSw; simp only [List.getElem?_toArray, List.getElem?_cons_zero, List.getElem?_cons_succ]; go_simp; try with_reducible rfl
              try simp only [Act.put, List.setIfInBounds_toArray, List.set_cons_zero, List.set_cons_succ]
              refine held_w (i := 18) (d := some 50) (v := ?_) rfl (by kernel_rfl) (by kernel_rfl) (by kernel_rfl) (fun _ _ _ h => h) (by rfl) ?_ hHeld ?_
              rotate_left
              · intro w' hSw; obtain ⟨q0, q1, q2⟩ := hSw; simp only [List.getElem?_toArray, List.getElem?_cons_zero, List.getElem?_cons_succ]; go_simp; try with_reducible rfl
              try simp only [Act.put, List.setIfInBounds_toArray, List.set_cons_zero, List.set_cons_succ]
              refine held_w (i := 19) (d := some 51) (v := ?_) rfl (by kernel_rfl) (by kernel_rfl) (by kernel_rfl) (fun _ _ _ h => h) (by rfl) ?_ hHeld ?_
              rotate_left
              · intro w' hSw; obtain ⟨q0, q1, q2⟩ := hSw; simp only [List.getElem?_toArray, List.getElem?_cons_zero, List.getElem?_cons_succ]; go_simp; try with_reducible rfl
              try simp only [Act.put, List.setIfInBounds_toArray, List.set_cons_zero, List.set_cons_succ]
              refine held_w (i := 20) (d := some 52) (v := ?_) rfl (by kernel_rfl) (by kernel_rfl) (by kernel_rfl) (fun _ _ _ h => h) (by rfl) ?_ hHeld ?_
              rotate_left
              · intro w' hSw; obtain ⟨q0, q1, q2⟩ := hSw; simp only [List.getElem?_toArray, List.getElem?_cons_zero, List.getElem?_cons_succ]; go_simp; try with_reducible rfl
              try simp only [Act.put, List.setIfInBounds_toArray, List.set_cons_zero, List.set_cons_succ]
              refine held_w (i := 21) (d := some 53) (v := ?_) rfl (by kernel_rfl) (by kernel_rfl) (by kernel_rfl) (fun _ _ _ h => h) (by rfl) ?_ hHeld ?_
              rotate_left
              · intro w' hSw; obtain ⟨q0, q1, q2⟩ := hSw; simp only [List.getElem?_toArray, List.getElem?_cons_zero, List.getElem?_cons_succ]; go_simp; try with_reducible rfl
              try simp only [Act.put, List.setIfInBounds_toArray, List.set_cons_zero, List.set_cons_succ]
              refine wpAnyH_done (by kernel_rfl) ?_ _
              have CR := Lib.hid (fun W (hW : OwnB w q S2 W) => oRead_c hW (HT2.out.2.1.mono (by omega)) (i := (Z : Int)) (by omega) (by omega))
              rw [calm_read HT2.out.1 (by omega), Int.toNat_natCast, show (S2.wt Z).getLastD (S2.is Z) = last from HT2.out.2.2] at CR
              go_wp2_with (go_at_call 17; refine (CR.out _ (by first | exact HO3.out | exact HO3.out.drew | exact HO3.out.drewN _)).mono ?_; rintro e v4 ⟨rfl, ho4⟩; have HO4 := Lib.hid ho4; clear ho4; dsimp only)
              go_roundw
              case rel => first | exact ⟨i + 1, S2, last, by omega, by go_num, rfl, ⟨HT2.out.1, HT2.out.2.1.mono (by omega), HT2.out.2.2, HO4.out⟩⟩ | exact ⟨_, _, Value.int .i64 ((i + 1 : Nat) : Int), ⟨i + 1, by omega, rfl, S2, last, rfl, ⟨HT2.out.1, HT2.out.2.1.mono (by omega), HT2.out.2.2, HO4.out⟩⟩, rfl, rfl, by go_num⟩
              case measure => simp [intOf]; omega
        · by_cases k1 : kd = 1
          · have t0 : (kd == 0) = false := by simpa using k0
            have t1 : (kd == 1) = true := by simpa using k1
            obtain ⟨ef, hc2⟩ := calm_flush hcalm
            have hf2 := fit_flush hfit
            rw [ef] at hf2
            have CF := Lib.hid (oFlush_c HS.out.2.2.2 (hfit.mono (by omega)))
            rw [ef] at CF
            have ht2 := (top_settle S (S.calls + 1) Z).trans htop
            obtain ⟨S2, hS2⟩ : ∃ S2, settleD { S with calls := S.calls + 1 } = S2 := ⟨_, rfl⟩
            simp only [hS2] at CF hc2 hf2 ht2
            have HT2 := Lib.hid (And.intro hc2 (And.intro hf2 ht2))
            clear hcalm hfit htop ef hc2 hf2 ht2 hS2
            go_wp2_with (go_at_call 20; refine CF.out.mono ?_; rintro e v3 ⟨rfl, ho3⟩; have HO3 := Lib.hid ho3; clear ho3; dsimp only)
            have CR := Lib.hid (fun W (hW : OwnB w q S2 W) => oRead_c hW (HT2.out.2.1.mono (by omega)) (i := (Z : Int)) (by omega) (by omega))
            rw [calm_read HT2.out.1 (by omega), Int.toNat_natCast, show (S2.wt Z).getLastD (S2.is Z) = last from HT2.out.2.2] at CR
            go_wp2_with (go_at_call 17; refine (CR.out _ (by first | exact HO3.out | exact HO3.out.drew | exact HO3.out.drewN _)).mono ?_; rintro e v4 ⟨rfl, ho4⟩; have HO4 := Lib.hid ho4; clear ho4; dsimp only)
            go_roundw
            case rel => first | exact ⟨i + 1, S2, last, by omega, by go_num, rfl, ⟨HT2.out.1, HT2.out.2.1.mono (by omega), HT2.out.2.2, HO4.out⟩⟩ | exact ⟨_, _, Value.int .i64 ((i + 1 : Nat) : Int), ⟨i + 1, by omega, rfl, S2, last, rfl, ⟨HT2.out.1, HT2.out.2.1.mono (by omega), HT2.out.2.2, HO4.out⟩⟩, rfl, rfl, by go_num⟩
            case measure => simp [intOf]; omega
          · have t0 : (kd == 0) = false := by simpa using k0
            have t1 : (kd == 1) = false := by simpa using k1
            have HO3 := Lib.hid HS.out.2.2.2
            have HT2 := Lib.hid (And.intro hcalm (And.intro (hfit.mono (show 2 * i ≤ 2 * i + 2 by omega)) htop))
            clear hcalm hfit htop
            have CR := Lib.hid (fun W (hW : OwnB w q S W) => oRead_c hW (HT2.out.2.1.mono (by omega)) (i := (Z : Int)) (by omega) (by omega))
            rw [calm_read HT2.out.1 (by omega), Int.toNat_natCast, show (S.wt Z).getLastD (S.is Z) = last from HT2.out.2.2] at CR
            go_wp2_with (go_at_call 17; refine (CR.out _ (by first | exact HO3.out | exact HO3.out.drew | exact HO3.out.drewN _)).mono ?_; rintro e v4 ⟨rfl, ho4⟩; have HO4 := Lib.hid ho4; clear ho4; dsimp only)
            go_roundw
            case rel => first | exact ⟨i + 1, S, last, by omega, by go_num, rfl, ⟨HT2.out.1, HT2.out.2.1.mono (by omega), HT2.out.2.2, HO4.out⟩⟩ | exact ⟨_, _, Value.int .i64 ((i + 1 : Nat) : Int), ⟨i + 1, by omega, rfl, S, last, rfl, ⟨HT2.out.1, HT2.out.2.1.mono (by omega), HT2.out.2.2, HO4.out⟩⟩, rfl, rfl, by go_num⟩
            case measure => simp [intOf]; omega
      · obtain rfl : i = N := by omega
        have hcalm := HS.out.1
        have hfit := HS.out.2.1.mono (show 2 * i ≤ 800000 by omega)
        have htop := HS.out.2.2.1
        obtain ⟨ef, hc2⟩ := calm_flush hcalm
        have hf2 := fit_flush hfit
        rw [ef] at hf2
        have CF := Lib.hid (oFlush_c HS.out.2.2.2 (hfit.mono (by omega)))
        rw [ef] at CF
        have ht2 := (top_settle S (S.calls + 1) Z).trans htop
        have hw2 : (settleD { S with calls := S.calls + 1 }).wt = fun _ => [] := rfl
        obtain ⟨S2, hS2⟩ : ∃ S2, settleD { S with calls := S.calls + 1 } = S2 := ⟨_, rfl⟩
        simp only [hS2] at CF hc2 hf2 ht2 hw2
        obtain ⟨k1, k2, k3, k4⟩ := calm_fell hc2 0
        have hf3 := fit_down (keep := 0) hf2
        have CC := Lib.hid (fun W (hW : OwnB w q S2 W) => oCrash_c hW (hf2.mono (by omega)) (keep := 0) (by omega))
        have CP := Lib.hid (fun W (hW : OwnB w q (downD S2 0) W) => oPower_c hW (hf3.mono (by omega)))
        have hf4 : Fit (fellD S2 0) (800000 + 2) := fit_power hf3
        have hr : readD (fellD S2 0) (Z : Int) = (last, 0) := by
          rw [calm_read k2 (by omega), Int.toNat_natCast, k3, k4]
          have : fallen 0 S2.is S2.wt Z = last := by rw [fallen_zero, ← ht2]; unfold topD; rw [hw2]; rfl
          rw [← this]; rfl
        have CR := Lib.hid (fun W (hW : OwnB w q (fellD S2 0) W) => oRead_c hW (hf4.mono (by omega)) (i := (Z : Int)) (by omega) (by omega))
        rw [hr] at CR
        have CD := Lib.hid (fun W (hW : OwnB w q (downD S2 0) W) => oDead_c hW (hf3.mono (by omega)))
        rw [k1] at CD
        clear hcalm hfit htop ef hc2 hf2 ht2 hw2 hS2 k1 k2 k3 k4 hf3 hf4 hr hlt
        go_wp2_with (first
          | (go_at_call 20; refine CF.out.mono ?_; rintro e v3 ⟨rfl, ho3⟩; have HO3 := Lib.hid ho3; clear ho3; dsimp only)
          | (go_at_call 21; refine (CC.out _ HO3.out).mono ?_; rintro e v4 ⟨rfl, ho4⟩; have HO4 := Lib.hid ho4; clear ho4; dsimp only)
          | (go_at_call 13; refine (CD.out _ HO4.out).mono ?_; rintro e v5 ⟨rfl, ho5⟩; have HO5 := Lib.hid ho5; clear ho5; dsimp only)
          | (go_at_call 15; refine (CP.out _ HO5.out).mono ?_; rintro e v6 ⟨rfl, ho6⟩; have HO6 := Lib.hid ho6; clear ho6; dsimp only)
          | (go_at_call 17; refine (CR.out _ HO6.out).mono ?_; rintro e v7 ⟨rfl, ho7⟩; have HO7 := Lib.hid ho7; clear ho7; dsimp only))
        go_ret
        exact ⟨by simp [go_sem], HO7.out.bel⟩
end Go.Proofs.Ytndmndchbfmppaa
