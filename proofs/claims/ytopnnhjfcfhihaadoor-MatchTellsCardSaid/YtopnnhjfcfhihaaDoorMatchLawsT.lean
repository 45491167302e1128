/-
  Layer 5 (match): the law MatchTells returns true.
-/
import Derived.Test.YtopnnhjfcfhihaaDoorMatchA
import Derived.Test.YtopnnhjfcfhihaaDoorMatchC
import Derived.Test.YtopnnhjfcfhihaaDoorMatchRefC
import Derived.Test.YtopnnhjfcfhihaaDoorMatchH
namespace Go.Proofs.YtopnnhjfcfhihaaDoor
open Go.RowKit Go.Deep
attribute [local go_sem] str_size str_append str_toList str_get str_extract
set_option linter.unusedVariables false
set_option linter.unusedSimpArgs false
set_option maxRecDepth 100000 in
set_option maxHeartbeats 1000000 in
theorem law_MatchTells (a0 : Option Addr) (len0 cap0 : Nat) (z0 : List Mat) (a1 : Option Addr) (len1 cap1 : Nat) (z1 : List Lab) (w : World) (hl0 : len0 ≤ maxLen) (w0 : MsAt w a0 len0 z0) (hl1 : len1 ≤ maxLen) (w1 : LAt w a1 len1 z1)
    (hT : Lib.Utf8Tabs 1 2 w) :
    Calls Tryd.prog 3 #[.slice a0 len0 cap0, .slice a1 len1 cap1] w fun e w' => e = .returned (.bool true) ∧ Below w.heap.size w w' := by
  unfold maxLen at hl0 hl1
  have hle0 := w0.1
  have hle1 := w1.1
  subst hle0 hle1
  have cH := fun W h => heavyM_c a0 z0.length cap0 z0 W hl0 h
  have cL := fun W h => large_c a1 z1.length cap1 z1 W hl1 h
  cases hH : heavyM z0 with
  | true =>
    rw [hH] at cH
    go_enter Tryd.func3, Tryd.ntmps3
    go_wp2_with (go_at_call 6; refine (cH _ w0).mono ?_; rintro e w2 ⟨rfl, hb2⟩; dsimp only)
    go_ret
    exact ⟨rfl, hb2⟩
  | false =>
  rw [hH] at cH
  cases hG : heavyL z1 with
  | true =>
    rw [hG] at cL
    clear hH
    go_enter Tryd.func3, Tryd.ntmps3
    go_wp2_with (first | (go_at_call 6; refine (cH _ w0).mono ?_; rintro e w2 ⟨rfl, hb2⟩; dsimp only) | (go_at_call 7; refine (cL _ (w1.below hb2)).mono ?_; rintro e w3 ⟨rfl, hb3⟩; dsimp only))
    go_ret
    exact ⟨rfl, below2 hb2 hb3 hb2.size⟩
  | false =>
  rw [hG] at cL
  obtain ⟨hn0, hsm⟩ := heavyM_small hH
  obtain ⟨hn1, hz⟩ := large_small hG
  have HSM := Lib.hid hsm
  have HZ := Lib.hid hz
  clear hH hG hsm hz
  go_enter Tryd.func3, Tryd.ntmps3
  go_wp2_with (first | (go_at_call 6; refine (cH _ w0).mono ?_; rintro e w2 ⟨rfl, hb2⟩; dsimp only) | (go_at_call 7; refine (cL _ (w1.below hb2)).mono ?_; rintro e w3 ⟨rfl, hb3⟩; have hb23 := below2 hb2 hb3 hb2.size; dsimp only))
  obtain ⟨wo, rfl⟩ : ∃ wo : World, wo = w3 := ⟨_, rfl⟩
  go_loopw [5] (fun c wr => ∃ i : Nat, i ≤ z0.length ∧ c = .int .i64 i ∧ Below w.heap.size w wr) (fun c _ => z0.length - (intOf c).toNat)
  case atStart => exact ⟨0, Nat.zero_le _, rfl, hb23⟩
  case round =>
    obtain ⟨i, hi, rfl, hb⟩ := hrel
    have hsz := hb.size
    by_cases hlt : i < z0.length
    · have hsm := HSM.out _ (List.getElem_mem hlt)
      obtain ⟨⟨r1, r2, r3, r4, r5⟩, ad, rfl, h2, h3, h4, h5, S, cS, h6, h7⟩ := (w0.below hb).2 i hlt
      obtain ⟨m, hm⟩ : ∃ m, z0[i]'hlt = m := ⟨_, rfl⟩
      rw [hm] at hsm r1 r2 r3 r4 r5 h3 h4 h5 h6 h7
      clear hm
      have c1 := fun W h h' => mcheck_c m S cS W hsm h h'
      have c2 := fun W h => mrefCheck_c m S cS W hsm h
      have c3 := fun W h h' => one_c m S cS a1 z1.length cap1 z1 W r3 h (by omega) h' HZ.out
      have c4 := fun W h h' => refOne_c m S cS a1 z1.length cap1 z1 W r3 h (by omega) h' HZ.out
      obtain ⟨C, hC⟩ : ∃ C, eM (chkL m) = C := ⟨_, rfl⟩
      obtain ⟨O, hO⟩ : ∃ O, oneL m z1 = O := ⟨_, rfl⟩
      rw [hC] at c1 c2
      rw [hO] at c3 c4
      have tC : (C != C) = false := by simp
      have tO : (O != O) = false := by simp
      have HC1 := Lib.hid c1
      have HC2 := Lib.hid c2
      have HC3 := Lib.hid c3
      have HC4 := Lib.hid c4
      have hf : ∀ W, Below wr.heap.size wr W → W.cell? (ad.add (i * 4)) = some (.int .i64 m.1) ∧ W.cell? ⟨(ad.add (i * 4)).block, (ad.add (i * 4)).off + 1, none⟩ = some (.string (str m.2.1)) ∧
          W.cell? ⟨(ad.add (i * 4)).block, (ad.add (i * 4)).off + 2, none⟩ = some (.string (str m.2.2.1)) ∧ W.cell? ⟨(ad.add (i * 4)).block, (ad.add (i * 4)).off + 3, none⟩ = some (.slice S m.2.2.2.length cS) ∧ Below wr.heap.size wr W := fun W hW =>
        ⟨(hW.cell (p := ad.add (i * 4)) h2).trans h3, (hW.cell (p := ⟨(ad.add (i * 4)).block, (ad.add (i * 4)).off + 1, none⟩) h2).trans h4, (hW.cell (p := ⟨(ad.add (i * 4)).block, (ad.add (i * 4)).off + 2, none⟩) h2).trans h5, (hW.cell (p := ⟨(ad.add (i * 4)).block, (ad.add (i * 4)).off + 3, none⟩) h2).trans h6, hW⟩
      have hr : ∀ W, Below wr.heap.size wr W → StrsAt W S m.2.2.2.length m.2.2.2 ∧ LAt W a1 z1.length z1 ∧ Lib.Utf8Tabs 1 2 W := fun W hW => ⟨h7.below hW, (w1.below hb).below hW, Utf8Tabs_below (Utf8Tabs_below hT hb) hW⟩
      have HF := Lib.hid hf
      have HR := Lib.hid hr
      clear c1 c2 c3 c4 hC hO hf hr h7 hsm
      go_wp2_with fail
      refine wp_region_held_drew (S := fun W => W.cell? (ad.add (i * 4)) = some (.int .i64 m.1) ∧ W.cell? ⟨(ad.add (i * 4)).block, (ad.add (i * 4)).off + 1, none⟩ = some (.string (str m.2.1)) ∧
          W.cell? ⟨(ad.add (i * 4)).block, (ad.add (i * 4)).off + 2, none⟩ = some (.string (str m.2.2.1)) ∧ W.cell? ⟨(ad.add (i * 4)).block, (ad.add (i * 4)).off + 3, none⟩ = some (.slice S m.2.2.2.length cS) ∧ Below wr.heap.size wr W) (by kernel_rfl) (HF.out _ (Below.drew (Below.refl _ _))) (fun hHeld => ?_)
      refine held_w (i := 0) (d := some 18) (v := ?_) rfl (by kernel_rfl) (by kernel_rfl) (by kernel_rfl) (fun _ _ _ h => h) (by rfl) ?_ hHeld ?_
      rotate_left
      · intro w' hSw; obtain ⟨q0, q1, q2, q3, q4⟩ := hSw; simp only [List.getElem?_toArray, List.getElem?_cons_zero, List.getElem?_cons_succ]; go_simp; try with_reducible rfl
      try simp only [Act.put, List.setIfInBounds_toArray, List.set_cons_zero, List.set_cons_succ]
      refine held_w (i := 1) (d := some 19) (v := ?_) rfl (by kernel_rfl) (by kernel_rfl) (by kernel_rfl) (fun _ _ _ h => h) (by rfl) ?_ hHeld ?_
      rotate_left
      · intro w' hSw; obtain ⟨q0, q1, q2, q3, q4⟩ := hSw; simp only [List.getElem?_toArray, List.getElem?_cons_zero, List.getElem?_cons_succ]; go_simp; try with_reducible rfl
      try simp only [Act.put, List.setIfInBounds_toArray, List.set_cons_zero, List.set_cons_succ]
      refine held_w (i := 2) (d := some 20) (v := ?_) rfl (by kernel_rfl) (by kernel_rfl) (by kernel_rfl) (fun _ _ _ h => h) (by rfl) ?_ hHeld ?_
      rotate_left
      · intro w' hSw; obtain ⟨q0, q1, q2, q3, q4⟩ := hSw; simp only [List.getElem?_toArray, List.getElem?_cons_zero, List.getElem?_cons_succ]; go_simp; try with_reducible rfl
      try simp only [Act.put, List.setIfInBounds_toArray, List.set_cons_zero, List.set_cons_succ]
      refine held_w (i := 3) (d := some 21) (v := ?_) rfl (by kernel_rfl) (by kernel_rfl) (by kernel_rfl) (fun _ _ _ h => h) (by rfl) ?_ hHeld ?_
      rotate_left
      · intro w' hSw; obtain ⟨q0, q1, q2, q3, q4⟩ := hSw; simp only [List.getElem?_toArray, List.getElem?_cons_zero, List.getElem?_cons_succ]; go_simp; try with_reducible rfl
      try simp only [Act.put, List.setIfInBounds_toArray, List.set_cons_zero, List.set_cons_succ]
      refine held_w (i := 5) (d := some 23) (v := ?_) rfl (by kernel_rfl) (by kernel_rfl) (by kernel_rfl) (fun _ _ _ h => h) (by rfl) ?_ hHeld ?_
      rotate_left
      · intro w' hSw; obtain ⟨q0, q1, q2, q3, q4⟩ := hSw; simp only [List.getElem?_toArray, List.getElem?_cons_zero, List.getElem?_cons_succ]; go_simp; try with_reducible rfl
      try simp only [Act.put, List.setIfInBounds_toArray, List.set_cons_zero, List.set_cons_succ]
      refine held_w (i := 6) (d := some 24) (v := ?_) rfl (by kernel_rfl) (by kernel_rfl) (by kernel_rfl) (fun _ _ _ h => h) (by rfl) ?_ hHeld ?_
      rotate_left
      · intro w' hSw; obtain ⟨q0, q1, q2, q3, q4⟩ := hSw; simp only [List.getElem?_toArray, List.getElem?_cons_zero, List.getElem?_cons_succ]; go_simp; try with_reducible rfl
      try simp only [Act.put, List.setIfInBounds_toArray, List.set_cons_zero, List.set_cons_succ]
      refine held_w (i := 7) (d := some 25) (v := ?_) rfl (by kernel_rfl) (by kernel_rfl) (by kernel_rfl) (fun _ _ _ h => h) (by rfl) ?_ hHeld ?_
      rotate_left
      · intro w' hSw; obtain ⟨q0, q1, q2, q3, q4⟩ := hSw; simp only [List.getElem?_toArray, List.getElem?_cons_zero, List.getElem?_cons_succ]; go_simp; try with_reducible rfl
      try simp only [Act.put, List.setIfInBounds_toArray, List.set_cons_zero, List.set_cons_succ]
      refine held_w (i := 8) (d := some 26) (v := ?_) rfl (by kernel_rfl) (by kernel_rfl) (by kernel_rfl) (fun _ _ _ h => h) (by rfl) ?_ hHeld ?_
      rotate_left
      · intro w' hSw; obtain ⟨q0, q1, q2, q3, q4⟩ := hSw; simp only [List.getElem?_toArray, List.getElem?_cons_zero, List.getElem?_cons_succ]; go_simp; try with_reducible rfl
      try simp only [Act.put, List.setIfInBounds_toArray, List.set_cons_zero, List.set_cons_succ]
      refine held_c (i := 4) (by kernel_rfl) (by rfl) (fun K hK => ?_)
      simp only [List.getElem?_toArray, List.getElem?_cons_zero, List.getElem?_cons_succ]
      go_simp
      refine (HC1.out _ (HR.out _ hHeld.2.2.2.2).1 (HR.out _ hHeld.2.2.2.2).2.2).mono ?_
      rintro e w5 ⟨rfl, hk⟩
      have hk2 := below2 hHeld.2.2.2.2 hk hHeld.2.2.2.2.size
      refine hK.out _ _ (HF.out _ hk2) (fun hHeld => ?_)
      clear hK K hk
      try simp only [Act.put, List.setIfInBounds_toArray, List.set_cons_zero, List.set_cons_succ]
      refine held_c (i := 9) (by kernel_rfl) (by rfl) (fun K hK => ?_)
      simp only [List.getElem?_toArray, List.getElem?_cons_zero, List.getElem?_cons_succ]
      go_simp
      refine (HC2.out _ (HR.out _ hHeld.2.2.2.2).1).mono ?_
      rintro e w6 ⟨rfl, hk⟩
      have hk2 := below2 hHeld.2.2.2.2 hk hHeld.2.2.2.2.size
      refine hK.out _ _ (HF.out _ hk2) (fun hHeld => ?_)
      clear hK K hk
      try simp only [Act.put, List.setIfInBounds_toArray, List.set_cons_zero, List.set_cons_succ]
      refine held_w (i := 10) (d := some 28) (v := ?_) rfl (by kernel_rfl) (by kernel_rfl) (by kernel_rfl) (fun _ _ _ h => h) (by rfl) ?_ hHeld ?_
      rotate_left
      · intro w' hSw; obtain ⟨q0, q1, q2, q3, q4⟩ := hSw; simp only [List.getElem?_toArray, List.getElem?_cons_zero, List.getElem?_cons_succ]; go_simp; try with_reducible rfl
      try simp only [Act.put, List.setIfInBounds_toArray, List.set_cons_zero, List.set_cons_succ]
      refine held_w (i := 11) (d := some 29) (v := ?_) rfl (by kernel_rfl) (by kernel_rfl) (by kernel_rfl) (fun _ _ _ h => h) (by rfl) ?_ hHeld ?_
      rotate_left
      · intro w' hSw; obtain ⟨q0, q1, q2, q3, q4⟩ := hSw; simp only [List.getElem?_toArray, List.getElem?_cons_zero, List.getElem?_cons_succ]; go_simp; try with_reducible rfl
      try simp only [Act.put, List.setIfInBounds_toArray, List.set_cons_zero, List.set_cons_succ]
      refine held_w (i := 12) (d := some 30) (v := ?_) rfl (by kernel_rfl) (by kernel_rfl) (by kernel_rfl) (fun _ _ _ h => h) (by rfl) ?_ hHeld ?_
      rotate_left
      · intro w' hSw; obtain ⟨q0, q1, q2, q3, q4⟩ := hSw; simp only [List.getElem?_toArray, List.getElem?_cons_zero, List.getElem?_cons_succ]; go_simp; try with_reducible rfl
      try simp only [Act.put, List.setIfInBounds_toArray, List.set_cons_zero, List.set_cons_succ]
      refine held_w (i := 13) (d := some 31) (v := ?_) rfl (by kernel_rfl) (by kernel_rfl) (by kernel_rfl) (fun _ _ _ h => h) (by rfl) ?_ hHeld ?_
      rotate_left
      · intro w' hSw; obtain ⟨q0, q1, q2, q3, q4⟩ := hSw; simp only [List.getElem?_toArray, List.getElem?_cons_zero, List.getElem?_cons_succ]; go_simp; try with_reducible rfl
      try simp only [Act.put, List.setIfInBounds_toArray, List.set_cons_zero, List.set_cons_succ]
      refine held_w (i := 14) (d := some 32) (v := ?_) rfl (by kernel_rfl) (by kernel_rfl) (by kernel_rfl) (fun _ _ _ h => h) (by rfl) ?_ hHeld ?_
      rotate_left
      · intro w' hSw; obtain ⟨q0, q1, q2, q3, q4⟩ := hSw; simp only [List.getElem?_toArray, List.getElem?_cons_zero, List.getElem?_cons_succ]; go_simp; try with_reducible rfl
      try simp only [Act.put, List.setIfInBounds_toArray, List.set_cons_zero, List.set_cons_succ]
      refine held_w (i := 15) (d := some 33) (v := ?_) rfl (by kernel_rfl) (by kernel_rfl) (by kernel_rfl) (fun _ _ _ h => h) (by rfl) ?_ hHeld ?_
      rotate_left
      · intro w' hSw; obtain ⟨q0, q1, q2, q3, q4⟩ := hSw; simp only [List.getElem?_toArray, List.getElem?_cons_zero, List.getElem?_cons_succ]; go_simp; try with_reducible rfl
      try simp only [Act.put, List.setIfInBounds_toArray, List.set_cons_zero, List.set_cons_succ]
      refine held_w (i := 16) (d := some 34) (v := ?_) rfl (by kernel_rfl) (by kernel_rfl) (by kernel_rfl) (fun _ _ _ h => h) (by rfl) ?_ hHeld ?_
      rotate_left
      · intro w' hSw; obtain ⟨q0, q1, q2, q3, q4⟩ := hSw; simp only [List.getElem?_toArray, List.getElem?_cons_zero, List.getElem?_cons_succ]; go_simp; try with_reducible rfl
      try simp only [Act.put, List.setIfInBounds_toArray, List.set_cons_zero, List.set_cons_succ]
      refine held_w (i := 18) (d := some 36) (v := ?_) rfl (by kernel_rfl) (by kernel_rfl) (by kernel_rfl) (fun _ _ _ h => h) (by rfl) ?_ hHeld ?_
      rotate_left
      · intro w' hSw; obtain ⟨q0, q1, q2, q3, q4⟩ := hSw; simp only [List.getElem?_toArray, List.getElem?_cons_zero, List.getElem?_cons_succ]; go_simp; try with_reducible rfl
      try simp only [Act.put, List.setIfInBounds_toArray, List.set_cons_zero, List.set_cons_succ]
      refine held_w (i := 19) (d := some 37) (v := ?_) rfl (by kernel_rfl) (by kernel_rfl) (by kernel_rfl) (fun _ _ _ h => h) (by rfl) ?_ hHeld ?_
      rotate_left
      · intro w' hSw; obtain ⟨q0, q1, q2, q3, q4⟩ := hSw; simp only [List.getElem?_toArray, List.getElem?_cons_zero, List.getElem?_cons_succ]; go_simp; try with_reducible rfl
      try simp only [Act.put, List.setIfInBounds_toArray, List.set_cons_zero, List.set_cons_succ]
      refine held_w (i := 20) (d := some 38) (v := ?_) rfl (by kernel_rfl) (by kernel_rfl) (by kernel_rfl) (fun _ _ _ h => h) (by rfl) ?_ hHeld ?_
      rotate_left
      · intro w' hSw; obtain ⟨q0, q1, q2, q3, q4⟩ := hSw; simp only [List.getElem?_toArray, List.getElem?_cons_zero, List.getElem?_cons_succ]; go_simp; try with_reducible rfl
      try simp only [Act.put, List.setIfInBounds_toArray, List.set_cons_zero, List.set_cons_succ]
      refine held_w (i := 21) (d := some 39) (v := ?_) rfl (by kernel_rfl) (by kernel_rfl) (by kernel_rfl) (fun _ _ _ h => h) (by rfl) ?_ hHeld ?_
      rotate_left
      · intro w' hSw; obtain ⟨q0, q1, q2, q3, q4⟩ := hSw; simp only [List.getElem?_toArray, List.getElem?_cons_zero, List.getElem?_cons_succ]; go_simp; try with_reducible rfl
      try simp only [Act.put, List.setIfInBounds_toArray, List.set_cons_zero, List.set_cons_succ]
      refine held_w (i := 22) (d := some 40) (v := ?_) rfl (by kernel_rfl) (by kernel_rfl) (by kernel_rfl) (fun _ _ _ h => h) (by rfl) ?_ hHeld ?_
      rotate_left
      · intro w' hSw; obtain ⟨q0, q1, q2, q3, q4⟩ := hSw; simp only [List.getElem?_toArray, List.getElem?_cons_zero, List.getElem?_cons_succ]; go_simp; try with_reducible rfl
      try simp only [Act.put, List.setIfInBounds_toArray, List.set_cons_zero, List.set_cons_succ]
      refine held_c (i := 17) (by kernel_rfl) (by rfl) (fun K hK => ?_)
      simp only [List.getElem?_toArray, List.getElem?_cons_zero, List.getElem?_cons_succ]
      go_simp
      refine (HC3.out _ (HR.out _ hHeld.2.2.2.2).1 (HR.out _ hHeld.2.2.2.2).2.1).mono ?_
      rintro e w7 ⟨rfl, hk⟩
      have hk2 := below2 hHeld.2.2.2.2 hk hHeld.2.2.2.2.size
      refine hK.out _ _ (HF.out _ hk2) (fun hHeld => ?_)
      clear hK K hk
      try simp only [Act.put, List.setIfInBounds_toArray, List.set_cons_zero, List.set_cons_succ]
      refine held_c (i := 23) (by kernel_rfl) (by rfl) (fun K hK => ?_)
      simp only [List.getElem?_toArray, List.getElem?_cons_zero, List.getElem?_cons_succ]
      go_simp
      refine (HC4.out _ (HR.out _ hHeld.2.2.2.2).1 (HR.out _ hHeld.2.2.2.2).2.1).mono ?_
      rintro e w8 ⟨rfl, hk⟩
      have hk2 := below2 hHeld.2.2.2.2 hk hHeld.2.2.2.2.size
      refine hK.out _ _ (HF.out _ hk2) (fun hHeld => ?_)
      clear hK K hk
      try simp only [Act.put, List.setIfInBounds_toArray, List.set_cons_zero, List.set_cons_succ]
      refine held_w (i := 24) (d := some 42) (v := ?_) rfl (by kernel_rfl) (by kernel_rfl) (by kernel_rfl) (fun _ _ _ h => h) (by rfl) ?_ hHeld ?_
      rotate_left
      · intro w' hSw; obtain ⟨q0, q1, q2, q3, q4⟩ := hSw; simp only [List.getElem?_toArray, List.getElem?_cons_zero, List.getElem?_cons_succ]; go_simp; try with_reducible rfl
      try simp only [Act.put, List.setIfInBounds_toArray, List.set_cons_zero, List.set_cons_succ]
      refine held_w (i := 25) (d := some 43) (v := ?_) rfl (by kernel_rfl) (by kernel_rfl) (by kernel_rfl) (fun _ _ _ h => h) (by rfl) ?_ hHeld ?_
      rotate_left
      · intro w' hSw; obtain ⟨q0, q1, q2, q3, q4⟩ := hSw; simp only [List.getElem?_toArray, List.getElem?_cons_zero, List.getElem?_cons_succ]; go_simp; try with_reducible rfl
      try simp only [Act.put, List.setIfInBounds_toArray, List.set_cons_zero, List.set_cons_succ]
      refine wpAnyH_done (by kernel_rfl) ?_ _
      have hbE := hb.trans (hHeld.2.2.2.2.mono hsz)
      go_wp2_with fail
      go_roundw
      case rel => exact ⟨i + 1, by omega, by go_num, hbE⟩
      case measure => simp [intOf]; omega
    · obtain rfl : i = z0.length := by omega
      have c5 := all_c a0 z0.length cap0 z0 a1 z1.length cap1 z1 _ hl0 (w0.below hb) (by omega) (w1.below hb) HZ.out
      have c6 := fun W h h' => refAll_c a0 z0.length cap0 z0 a1 z1.length cap1 z1 W hl0 h (by omega) h' HZ.out
      have c7 := fun W h => all_c none 0 0 [] a1 z1.length cap1 z1 W (by omega) (MsAt.nil _ _) (by omega) h HZ.out
      rw [show allL [] z1 = true from rfl] at c7
      obtain ⟨O, hO⟩ : ∃ O, allL z0 z1 = O := ⟨_, rfl⟩
      rw [hO] at c5 c6
      have tO : (O == O) = true := by simp
      have C5 := Lib.hid c5
      clear hO c5
      go_wp2_with (go_at_call_of 12 (Value.slice a0 z0.length cap0); refine C5.out.mono ?_; rintro e w5 ⟨rfl, hb5⟩; have hb6 := below2 hb hb5 hsz; dsimp only)
      refine (c6 _ (w0.below hb6) (w1.below hb6)).mono ?_
      rintro e w7 ⟨rfl, hb7⟩
      have hb8 := below2 hb6 hb7 hb6.size
      go_wp2_with fail
      refine (c7 _ (w1.below hb8)).mono ?_
      rintro e w9 ⟨rfl, hb9⟩
      have hb10 := below2 hb8 hb9 hb8.size
      go_wp2_with fail
      go_ret
      exact ⟨rfl, hb10⟩
end Go.Proofs.YtopnnhjfcfhihaaDoor
