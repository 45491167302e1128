/-
  Layer 9 (block): the law BlockScript returns true.
-/
import Derived.Test.YtndmndchbfmppaaBlockLawsC
namespace Go.Proofs.Ytndmndchbfmppaa
open Go.RowKit Go.Deep
attribute [local go_sem] str_size str_append str_toList str_get str_extract
set_option linter.unusedVariables false
set_option linter.unusedSimpArgs false
set_option maxRecDepth 100000 in
set_option maxHeartbeats 4000000 in
theorem law_BlockScript (a0 : Int) (a1 : Option Addr) (len1 cap1 : Nat) (z1 : List BStp) (w : World) (w0 : (Lit.int .i64 a0).wf = true) (hl1 : len1 ≤ maxLen) (w1 : BsAt w a1 len1 z1) :
    Calls Try.prog 3 #[.int .i64 a0, .slice a1 len1 cap1] w fun e w' => e = .returned (.bool true) ∧ Below w.heap.size w w' := by
  unfold maxLen at hl1
  obtain ⟨r1, r2⟩ := bounds_i64 w0
  have hle := w1.1
  subst hle
  have CL := Lib.hid (bheavy_c a1 z1.length cap1 z1 w (by omega) w1)
  cases hB : heavyB z1 with
  | true =>
    rw [hB] at CL
    clear hB
    go_enter Try.func3, Try.ntmps3
    go_wp2_with (go_at_call 8; refine CL.out.mono ?_; rintro e v1 ⟨rfl, rfl⟩; dsimp only)
    go_ret
    exact ⟨rfl, Below.refl _ _⟩
  | false =>
    have hsm := heavyB_small hB
    rw [hB] at CL
    have HW := Lib.hid w1
    obtain ⟨N, hN⟩ : ∃ N, z1.length = N := ⟨_, rfl⟩
    have HN := Lib.hid hN
    rw [hN] at CL hsm ⊢
    have CN := Lib.hid (oNew_c a0 w w (Below.refl _ w) r1 r2)
    have CM := Lib.hid (fun W => refNew_c a0 W r1 r2)
    clear hB w1 hN hl1
    go_enter Try.func3, Try.ntmps3
    go_wp2_with (first
      | (go_at_call 8; refine CL.out.mono ?_; rintro e v1 ⟨rfl, rfl⟩; dsimp only)
      | (go_at_call 9; refine CN.out.mono ?_; rintro e v1 ⟨q, rfl, ho⟩; have HO := Lib.hid ho; clear ho; dsimp only)
      | (go_at_call 10; refine (CM.out _).mono ?_; rintro e v2 ⟨hm, hb⟩; obtain ⟨r, rfl, hx⟩ := BothD.start HO.out hb hm; have HX := Lib.hid hx; clear hm hb hx; dsimp only))
    have hfn := fit_new a0 0
    obtain ⟨S0, hS0⟩ : ∃ S0, newD a0 = S0 := ⟨_, rfl⟩
    rw [hS0] at HX hfn
    have HF0 := Lib.hid hfn
    obtain ⟨bi, b, hrlt, hr⟩ := HX.out.cells
    have c0 := blk_cell hr 0
    simp only [List.getElem?_toArray, List.getElem?_cons_zero] at c0
    obtain ⟨n0, hn0⟩ : ∃ n0, S0.n = n0 := ⟨_, rfl⟩
    rw [hn0] at c0
    have CS := Lib.hid (fun W (hW : BothD w q r S0 S0 [] W) => tSizeB hW (HF0.out.mono (by omega)) (HF0.out.mono (by omega)))
    rw [hn0] at CS
    clear hr hfn hS0 hn0
    refine wp_region_held_drew (S := fun wx => wx.cell? ⟨r, 0, none⟩ = some (.slice (some ⟨bi, 0, none⟩) n0 n0) ∧ True) (by kernel_rfl) ⟨c0, trivial⟩ (fun hHeld => ?_)
    refine held_w (i := 0) (d := some 19) (v := ?_) rfl (by kernel_rfl) (by kernel_rfl) (by kernel_rfl) (fun _ _ _ h => h) (by rfl) ?_ hHeld ?_
    rotate_left
    · intro w' hSw; obtain ⟨q0, q1⟩ := hSw; simp only [List.getElem?_toArray, List.getElem?_cons_zero, List.getElem?_cons_succ]; go_simp; try with_reducible rfl
    try simp only [Act.put, List.setIfInBounds_toArray, List.set_cons_zero, List.set_cons_succ]
    refine held_w (i := 1) (d := some 20) (v := ?_) rfl (by kernel_rfl) (by kernel_rfl) (by kernel_rfl) (fun _ _ _ h => h) (by rfl) ?_ hHeld ?_
    rotate_left
    · intro w' hSw; obtain ⟨q0, q1⟩ := hSw; simp only [List.getElem?_toArray, List.getElem?_cons_zero, List.getElem?_cons_succ]; go_simp; try with_reducible rfl
    try simp only [Act.put, List.setIfInBounds_toArray, List.set_cons_zero, List.set_cons_succ]
    refine held_w (i := 2) (d := some 21) (v := ?_) rfl (by kernel_rfl) (by kernel_rfl) (by kernel_rfl) (fun _ _ _ h => h) (by rfl) ?_ hHeld ?_
    rotate_left
    · intro w' hSw; obtain ⟨q0, q1⟩ := hSw; simp only [List.getElem?_toArray, List.getElem?_cons_zero, List.getElem?_cons_succ]; go_simp; try with_reducible rfl
    try simp only [Act.put, List.setIfInBounds_toArray, List.set_cons_zero, List.set_cons_succ]
    refine held_w (i := 3) (d := some 22) (v := ?_) rfl (by kernel_rfl) (by kernel_rfl) (by kernel_rfl) (fun _ _ _ h => h) (by rfl) ?_ hHeld ?_
    rotate_left
    · intro w' hSw; obtain ⟨q0, q1⟩ := hSw; simp only [List.getElem?_toArray, List.getElem?_cons_zero, List.getElem?_cons_succ]; go_simp; try with_reducible rfl
    try simp only [Act.put, List.setIfInBounds_toArray, List.set_cons_zero, List.set_cons_succ]
    refine held_w (i := 5) (d := some 24) (v := ?_) rfl (by kernel_rfl) (by kernel_rfl) (by kernel_rfl) (fun _ _ _ h => h) (by rfl) ?_ hHeld ?_
    rotate_left
    · intro w' hSw; obtain ⟨q0, q1⟩ := hSw; simp only [List.getElem?_toArray, List.getElem?_cons_zero, List.getElem?_cons_succ]; go_simp; try with_reducible rfl
    try simp only [Act.put, List.setIfInBounds_toArray, List.set_cons_zero, List.set_cons_succ]
    refine held_w (i := 6) (d := some 25) (v := ?_) rfl (by kernel_rfl) (by kernel_rfl) (by kernel_rfl) (fun _ _ _ h => h) (by rfl) ?_ hHeld ?_
    rotate_left
    · intro w' hSw; obtain ⟨q0, q1⟩ := hSw; simp only [List.getElem?_toArray, List.getElem?_cons_zero, List.getElem?_cons_succ]; go_simp; try with_reducible rfl
    try simp only [Act.put, List.setIfInBounds_toArray, List.set_cons_zero, List.set_cons_succ]
    refine held_w (i := 7) (d := some 26) (v := ?_) rfl (by kernel_rfl) (by kernel_rfl) (by kernel_rfl) (fun _ _ _ h => h) (by rfl) ?_ hHeld ?_
    rotate_left
    · intro w' hSw; obtain ⟨q0, q1⟩ := hSw; simp only [List.getElem?_toArray, List.getElem?_cons_zero, List.getElem?_cons_succ]; go_simp; try with_reducible rfl
    try simp only [Act.put, List.setIfInBounds_toArray, List.set_cons_zero, List.set_cons_succ]
    refine held_w (i := 8) (d := some 27) (v := ?_) rfl (by kernel_rfl) (by kernel_rfl) (by kernel_rfl) (fun _ _ _ h => h) (by rfl) ?_ hHeld ?_
    rotate_left
    · intro w' hSw; obtain ⟨q0, q1⟩ := hSw; simp only [List.getElem?_toArray, List.getElem?_cons_zero, List.getElem?_cons_succ]; go_simp; try with_reducible rfl
    try simp only [Act.put, List.setIfInBounds_toArray, List.set_cons_zero, List.set_cons_succ]
    refine held_w (i := 9) (d := some 28) (v := ?_) rfl (by kernel_rfl) (by kernel_rfl) (by kernel_rfl) (fun _ _ _ h => h) (by rfl) ?_ hHeld ?_
    rotate_left
    · intro w' hSw; obtain ⟨q0, q1⟩ := hSw; simp only [List.getElem?_toArray, List.getElem?_cons_zero, List.getElem?_cons_succ]; go_simp; try with_reducible rfl
    try simp only [Act.put, List.setIfInBounds_toArray, List.set_cons_zero, List.set_cons_succ]
    refine held_c (i := 4) (by kernel_rfl) (by rfl) (fun K hK => ?_)
    simp only [List.getElem?_toArray, List.getElem?_cons_zero, List.getElem?_cons_succ]
    go_simp
    refine (CS.out _ (by first | exact HX.out | exact HX.out.drew)).mono ?_
    rintro e v3 ⟨rfl, hx, hb⟩
    have HX3 := Lib.hid hx
    have c3 := (hb.cell (p := ⟨r, 0, none⟩) hrlt).trans c0
    clear hx hb
    refine hK.out _ _ ⟨c3, trivial⟩ (fun hHeld => ?_)
    clear hK K
    try simp only [Act.put, List.setIfInBounds_toArray, List.set_cons_zero, List.set_cons_succ]
    refine held_w (i := 10) (d := some 29) (v := ?_) rfl (by kernel_rfl) (by kernel_rfl) (by kernel_rfl) (fun _ _ _ h => h) (by rfl) ?_ hHeld ?_
    rotate_left
    · intro w' hSw; obtain ⟨q0, q1⟩ := hSw; simp only [List.getElem?_toArray, List.getElem?_cons_zero, List.getElem?_cons_succ]; go_simp; try with_reducible rfl
    try simp only [Act.put, List.setIfInBounds_toArray, List.set_cons_zero, List.set_cons_succ]
    refine held_w (i := 11) (d := some 30) (v := ?_) rfl (by kernel_rfl) (by kernel_rfl) (by kernel_rfl) (fun _ _ _ h => h) (by rfl) ?_ hHeld ?_
    rotate_left
    · intro w' hSw; obtain ⟨q0, q1⟩ := hSw; simp only [List.getElem?_toArray, List.getElem?_cons_zero, List.getElem?_cons_succ]; go_simp; try with_reducible rfl
    try simp only [Act.put, List.setIfInBounds_toArray, List.set_cons_zero, List.set_cons_succ]
    refine wpAnyH_done (by kernel_rfl) ?_ _
    skip
    go_wp2_with fail
    go_loopw [7] (fun c wr => ∃ (i : Nat) (S : DSt), i ≤ N ∧ c = .int .i64 i ∧ Hid (Fit S (2 * i) ∧ BothD w q r S S [] wr)) (fun c _ => N - (intOf c).toNat)
    case atStart => exact ⟨0, S0, Nat.zero_le _, rfl, ⟨HF0.out, HX3.out⟩⟩
    case round =>
      obtain ⟨i, S, hi, rfl, HS⟩ := hrel
      clear c0 c3 hHeld
      by_cases hlt : i < N
      · have hltz : i < z1.length := by have := HN.out; omega
        have hb := HS.out.2.bel
        obtain ⟨⟨s1, s2, s3, s4, s5, s6⟩, ad, rfl, hblk, -, -, -, -⟩ := HW.out.2 i hltz
        have HC : Hid (∀ W, Below w.heap.size w W → W.cell? (ad.add (i * 4)) = some (.int .i64 z1[i].1) ∧ W.cell? ⟨(ad.add (i * 4)).block, (ad.add (i * 4)).off + 1, none⟩ = some (.int .i64 z1[i].2.1) ∧ W.cell? ⟨(ad.add (i * 4)).block, (ad.add (i * 4)).off + 2, none⟩ = some (.string (str z1[i].2.2.1)) ∧ W.cell? ⟨(ad.add (i * 4)).block, (ad.add (i * 4)).off + 3, none⟩ = some (.int .u64 (z1[i].2.2.2 : Int))) := fun W hW => by
          obtain ⟨_, ad', ea, _, h3, h4, h5, h6⟩ := (HW.out.below hW).2 i hltz
          injection ea with ea
          subst ea
          exact ⟨h3, h4, h5, h6⟩
        obtain ⟨kd, hkd⟩ : ∃ kd, (z1[i]'hltz).1 = kd := ⟨_, rfl⟩
        obtain ⟨I, hI⟩ : ∃ I, (z1[i]'hltz).2.1 = I := ⟨_, rfl⟩
        obtain ⟨s, hs⟩ : ∃ s, (z1[i]'hltz).2.2.1 = s := ⟨_, rfl⟩
        obtain ⟨keep, hkp⟩ : ∃ keep, (z1[i]'hltz).2.2.2 = keep := ⟨_, rfl⟩
        simp only [hkd, hI, hs, hkp] at HC s1 s2 s3 s4 s5 s6
        obtain ⟨x0, x1, x2, x3⟩ := HC.out _ hb
        have HO := Lib.hid HS.out.2
        have hfit := HS.out.1
        have CD := Lib.hid (fun W (hW : BothD w q r S S [] W) => does_c kd I s keep W hW (hfit.mono (by omega)) s3 s4 s5 s6 s1 s2)
        have hf2 := fit_step hfit (kd, I, s, keep)
        obtain ⟨T, hT⟩ : ∃ T, stepD S (kd, I, s, keep) = T := ⟨_, rfl⟩
        rw [hT] at CD hf2
        obtain ⟨g, hg⟩ : ∃ g, T.gone = g := ⟨_, rfl⟩
        obtain ⟨cl, hcl⟩ : ∃ cl, T.calls = cl := ⟨_, rfl⟩
        have HF2 := Lib.hid (hf2.mono (show 2 * i + 2 ≤ 800000 by omega))
        have HF3 := Lib.hid hf2
        have C1 := Lib.hid (fun W (hW : BothD w q r T T [] W) => tDeadB hW HF2.out HF2.out)
        have C2 := Lib.hid (fun W (hW : BothD w q r T T [] W) => tCallsB hW HF2.out HF2.out)
        rw [hg] at C1
        rw [hcl] at C2
        have HR : Hid (∀ W, BothD w q r T T [] W → r < W.heap.size ∧ W.cell? ⟨r, 2, none⟩ = some (.bool g) ∧ W.cell? ⟨r, 5, none⟩ = some (.int .i64 (cl : Int))) := fun W hW => by
          obtain ⟨bi, b, k1, k2⟩ := hW.cells
          rw [hg, hcl] at k2
          exact ⟨k1, blk_cell k2 2, blk_cell k2 5⟩
        clear hkd hI hs hkp hT hg hcl hfit hf2
        go_wp2_with fail
        refine wp_region_held_drew (S := fun wx => wx.cell? (ad.add (i * 4)) = some (.int .i64 kd) ∧ wx.cell? ⟨(ad.add (i * 4)).block, (ad.add (i * 4)).off + 1, none⟩ = some (.int .i64 I) ∧ wx.cell? ⟨(ad.add (i * 4)).block, (ad.add (i * 4)).off + 2, none⟩ = some (.string (str s)) ∧ wx.cell? ⟨(ad.add (i * 4)).block, (ad.add (i * 4)).off + 3, none⟩ = some (.int .u64 (keep : Int)) ∧ True) (by kernel_rfl) ⟨x0, x1, x2, x3, trivial⟩ (fun hHeld => ?_)
        refine held_w (i := 0) (d := some 37) (v := ?_) rfl (by kernel_rfl) (by kernel_rfl) (by kernel_rfl) (fun _ _ _ h => h) (by rfl) ?_ hHeld ?_
        rotate_left
        · intro w' hSw; obtain ⟨q0, q1, q2, q3, q4⟩ := hSw; simp only [List.getElem?_toArray, List.getElem?_cons_zero, List.getElem?_cons_succ]; go_simp; try with_reducible rfl
        try simp only [Act.put, List.setIfInBounds_toArray, List.set_cons_zero, List.set_cons_succ]
        refine held_w (i := 1) (d := some 38) (v := ?_) rfl (by kernel_rfl) (by kernel_rfl) (by kernel_rfl) (fun _ _ _ h => h) (by rfl) ?_ hHeld ?_
        rotate_left
        · intro w' hSw; obtain ⟨q0, q1, q2, q3, q4⟩ := hSw; simp only [List.getElem?_toArray, List.getElem?_cons_zero, List.getElem?_cons_succ]; go_simp; try with_reducible rfl
        try simp only [Act.put, List.setIfInBounds_toArray, List.set_cons_zero, List.set_cons_succ]
        refine held_w (i := 2) (d := some 39) (v := ?_) rfl (by kernel_rfl) (by kernel_rfl) (by kernel_rfl) (fun _ _ _ h => h) (by rfl) ?_ hHeld ?_
        rotate_left
        · intro w' hSw; obtain ⟨q0, q1, q2, q3, q4⟩ := hSw; simp only [List.getElem?_toArray, List.getElem?_cons_zero, List.getElem?_cons_succ]; go_simp; try with_reducible rfl
        try simp only [Act.put, List.setIfInBounds_toArray, List.set_cons_zero, List.set_cons_succ]
        refine held_w (i := 3) (d := some 40) (v := ?_) rfl (by kernel_rfl) (by kernel_rfl) (by kernel_rfl) (fun _ _ _ h => h) (by rfl) ?_ hHeld ?_
        rotate_left
        · intro w' hSw; obtain ⟨q0, q1, q2, q3, q4⟩ := hSw; simp only [List.getElem?_toArray, List.getElem?_cons_zero, List.getElem?_cons_succ]; go_simp; try with_reducible rfl
        try simp only [Act.put, List.setIfInBounds_toArray, List.set_cons_zero, List.set_cons_succ]
        refine held_w (i := 4) (d := some 41) (v := ?_) rfl (by kernel_rfl) (by kernel_rfl) (by kernel_rfl) (fun _ _ _ h => h) (by rfl) ?_ hHeld ?_
        rotate_left
        · intro w' hSw; obtain ⟨q0, q1, q2, q3, q4⟩ := hSw; simp only [List.getElem?_toArray, List.getElem?_cons_zero, List.getElem?_cons_succ]; go_simp; try with_reducible rfl
        try simp only [Act.put, List.setIfInBounds_toArray, List.set_cons_zero, List.set_cons_succ]
        refine held_w (i := 5) (d := some 42) (v := ?_) rfl (by kernel_rfl) (by kernel_rfl) (by kernel_rfl) (fun _ _ _ h => h) (by rfl) ?_ hHeld ?_
        rotate_left
        · intro w' hSw; obtain ⟨q0, q1, q2, q3, q4⟩ := hSw; simp only [List.getElem?_toArray, List.getElem?_cons_zero, List.getElem?_cons_succ]; go_simp; try with_reducible rfl
        try simp only [Act.put, List.setIfInBounds_toArray, List.set_cons_zero, List.set_cons_succ]
        refine held_c (i := 6) (by kernel_rfl) (by rfl) (fun K hK => ?_)
        simp only [List.getElem?_toArray, List.getElem?_cons_zero, List.getElem?_cons_succ]
        go_simp
        refine (CD.out _ (by first | exact HO.out | exact HO.out.drew)).mono ?_
        rintro e v5 ⟨rfl, hx⟩
        have HX5 := Lib.hid hx
        obtain ⟨l5, u2, u5⟩ := HR.out _ hx
        obtain ⟨y0, y1, y2, y3⟩ := HC.out _ hx.bel
        clear hx
        refine hK.out _ _ ⟨y0, y1, y2, y3, trivial⟩ (fun hHeld => ?_)
        clear hK K
        try simp only [Act.put, List.setIfInBounds_toArray, List.set_cons_zero, List.set_cons_succ]
        refine held_w (i := 7) (d := some 44) (v := ?_) rfl (by kernel_rfl) (by kernel_rfl) (by kernel_rfl) (fun _ _ _ h => h) (by rfl) ?_ hHeld ?_
        rotate_left
        · intro w' hSw; obtain ⟨q0, q1, q2, q3, q4⟩ := hSw; simp only [List.getElem?_toArray, List.getElem?_cons_zero, List.getElem?_cons_succ]; go_simp; try with_reducible rfl
        try simp only [Act.put, List.setIfInBounds_toArray, List.set_cons_zero, List.set_cons_succ]
        refine held_w (i := 8) (d := some 45) (v := ?_) rfl (by kernel_rfl) (by kernel_rfl) (by kernel_rfl) (fun _ _ _ h => h) (by rfl) ?_ hHeld ?_
        rotate_left
        · intro w' hSw; obtain ⟨q0, q1, q2, q3, q4⟩ := hSw; simp only [List.getElem?_toArray, List.getElem?_cons_zero, List.getElem?_cons_succ]; go_simp; try with_reducible rfl
        try simp only [Act.put, List.setIfInBounds_toArray, List.set_cons_zero, List.set_cons_succ]
        refine held_w (i := 9) (d := some 46) (v := ?_) rfl (by kernel_rfl) (by kernel_rfl) (by kernel_rfl) (fun _ _ _ h => h) (by rfl) ?_ hHeld ?_
        rotate_left
        · intro w' hSw; obtain ⟨q0, q1, q2, q3, q4⟩ := hSw; simp only [List.getElem?_toArray, List.getElem?_cons_zero, List.getElem?_cons_succ]; go_simp; try with_reducible rfl
        try simp only [Act.put, List.setIfInBounds_toArray, List.set_cons_zero, List.set_cons_succ]
        refine held_w (i := 11) (d := some 48) (v := ?_) rfl (by kernel_rfl) (by kernel_rfl) (by kernel_rfl) (fun _ _ _ h => h) (by rfl) ?_ hHeld ?_
        rotate_left
        · intro w' hSw; obtain ⟨q0, q1, q2, q3, q4⟩ := hSw; simp only [List.getElem?_toArray, List.getElem?_cons_zero, List.getElem?_cons_succ]; go_simp; try with_reducible rfl
        try simp only [Act.put, List.setIfInBounds_toArray, List.set_cons_zero, List.set_cons_succ]
        refine held_w (i := 12) (d := some 49) (v := ?_) rfl (by kernel_rfl) (by kernel_rfl) (by kernel_rfl) (fun _ _ _ h => h) (by rfl) ?_ hHeld ?_
        rotate_left
        · intro w' hSw; obtain ⟨q0, q1, q2, q3, q4⟩ := hSw; simp only [List.getElem?_toArray, List.getElem?_cons_zero, List.getElem?_cons_succ]; go_simp; try with_reducible rfl
        try simp only [Act.put, List.setIfInBounds_toArray, List.set_cons_zero, List.set_cons_succ]
        refine held_w (i := 13) (d := some 50) (v := ?_) rfl (by kernel_rfl) (by kernel_rfl) (by kernel_rfl) (fun _ _ _ h => h) (by rfl) ?_ hHeld ?_
        rotate_left
        · intro w' hSw; obtain ⟨q0, q1, q2, q3, q4⟩ := hSw; simp only [List.getElem?_toArray, List.getElem?_cons_zero, List.getElem?_cons_succ]; go_simp; try with_reducible rfl
        try simp only [Act.put, List.setIfInBounds_toArray, List.set_cons_zero, List.set_cons_succ]
        refine held_many (rs := [10, 14]) (by kernel_rfl) (by simp) ⟨?_, ?_, trivial⟩
        · refine ⟨by rfl, fun K hK => ?_⟩
          simp only [List.getElem?_toArray, List.getElem?_cons_zero, List.getElem?_cons_succ]
          go_simp
          refine (C1.out _ HX5.out).mono ?_
          rintro e v6 ⟨rfl, hx, hb6⟩
          have HX6 := Lib.hid hx
          obtain ⟨l6, t2, t5⟩ := HR.out _ hx
          obtain ⟨z0, z1', z2, z3⟩ := HC.out _ hx.bel
          clear hx hb6
          refine hK.out _ _ ⟨z0, z1', z2, z3, trivial⟩ (fun hHeld => ?_)
          clear hK K
          try simp only [Act.put, List.setIfInBounds_toArray, List.set_cons_zero, List.set_cons_succ]
          refine held_c (i := 14) (by kernel_rfl) (by rfl) (fun K hK => ?_)
          simp only [List.getElem?_toArray, List.getElem?_cons_zero, List.getElem?_cons_succ]
          go_simp
          refine hK.out _ _ hHeld (fun hHeld => ?_)
          clear hK K
          try simp only [Act.put, List.setIfInBounds_toArray, List.set_cons_zero, List.set_cons_succ]
          refine held_w (i := 15) (d := some 52) (v := ?_) rfl (by kernel_rfl) (by kernel_rfl) (by kernel_rfl) (fun _ _ _ h => h) (by rfl) ?_ hHeld ?_
          rotate_left
          · intro w' hSw; obtain ⟨q0, q1, q2, q3, q4⟩ := hSw; simp only [List.getElem?_toArray, List.getElem?_cons_zero, List.getElem?_cons_succ]; go_simp; try with_reducible rfl
          try simp only [Act.put, List.setIfInBounds_toArray, List.set_cons_zero, List.set_cons_succ]
          refine held_w (i := 16) (d := some 53) (v := ?_) rfl (by kernel_rfl) (by kernel_rfl) (by kernel_rfl) (fun _ _ _ h => h) (by rfl) ?_ hHeld ?_
          rotate_left
          · intro w' hSw; obtain ⟨q0, q1, q2, q3, q4⟩ := hSw; simp only [List.getElem?_toArray, List.getElem?_cons_zero, List.getElem?_cons_succ]; go_simp; try with_reducible rfl
          try simp only [Act.put, List.setIfInBounds_toArray, List.set_cons_zero, List.set_cons_succ]
          refine held_w (i := 17) (d := some 54) (v := ?_) rfl (by kernel_rfl) (by kernel_rfl) (by kernel_rfl) (fun _ _ _ h => h) (by rfl) ?_ hHeld ?_
          rotate_left
          · intro w' hSw; obtain ⟨q0, q1, q2, q3, q4⟩ := hSw; simp only [List.getElem?_toArray, List.getElem?_cons_zero, List.getElem?_cons_succ]; go_simp; try with_reducible rfl
          try simp only [Act.put, List.setIfInBounds_toArray, List.set_cons_zero, List.set_cons_succ]
          refine held_w (i := 18) (d := some 55) (v := ?_) rfl (by kernel_rfl) (by kernel_rfl) (by kernel_rfl) (fun _ _ _ h => h) (by rfl) ?_ hHeld ?_
          rotate_left
          · intro w' hSw; obtain ⟨q0, q1, q2, q3, q4⟩ := hSw; simp only [List.getElem?_toArray, List.getElem?_cons_zero, List.getElem?_cons_succ]; go_simp; try with_reducible rfl
          try simp only [Act.put, List.setIfInBounds_toArray, List.set_cons_zero, List.set_cons_succ]
          refine held_w (i := 20) (d := some 57) (v := ?_) rfl (by kernel_rfl) (by kernel_rfl) (by kernel_rfl) (fun _ _ _ h => h) (by rfl) ?_ hHeld ?_
          rotate_left
          · intro w' hSw; obtain ⟨q0, q1, q2, q3, q4⟩ := hSw; simp only [List.getElem?_toArray, List.getElem?_cons_zero, List.getElem?_cons_succ]; go_simp; try with_reducible rfl
          try simp only [Act.put, List.setIfInBounds_toArray, List.set_cons_zero, List.set_cons_succ]
          refine held_w (i := 21) (d := some 58) (v := ?_) rfl (by kernel_rfl) (by kernel_rfl) (by kernel_rfl) (fun _ _ _ h => h) (by rfl) ?_ hHeld ?_
          rotate_left
          · intro w' hSw; obtain ⟨q0, q1, q2, q3, q4⟩ := hSw; simp only [List.getElem?_toArray, List.getElem?_cons_zero, List.getElem?_cons_succ]; go_simp; try with_reducible rfl
          try simp only [Act.put, List.setIfInBounds_toArray, List.set_cons_zero, List.set_cons_succ]
          refine held_w (i := 22) (d := some 59) (v := ?_) rfl (by kernel_rfl) (by kernel_rfl) (by kernel_rfl) (fun _ _ _ h => h) (by rfl) ?_ hHeld ?_
          rotate_left
          · intro w' hSw; obtain ⟨q0, q1, q2, q3, q4⟩ := hSw; simp only [List.getElem?_toArray, List.getElem?_cons_zero, List.getElem?_cons_succ]; go_simp; try with_reducible rfl
          try simp only [Act.put, List.setIfInBounds_toArray, List.set_cons_zero, List.set_cons_succ]
          refine held_many (rs := [19, 23]) (by kernel_rfl) (by simp) ⟨?_, ?_, trivial⟩
          · refine ⟨by rfl, fun K hK => ?_⟩
            simp only [List.getElem?_toArray, List.getElem?_cons_zero, List.getElem?_cons_succ]
            go_simp
            refine (C2.out _ HX6.out).mono ?_
            rintro e v7 ⟨rfl, hx, hb7⟩
            have HX7 := Lib.hid hx
            obtain ⟨l7, p2, p5⟩ := HR.out _ hx
            obtain ⟨m0, m1, m2, m3⟩ := HC.out _ hx.bel
            clear hx hb7
            refine hK.out _ _ ⟨m0, m1, m2, m3, trivial⟩ (fun hHeld => ?_)
            clear hK K
            try simp only [Act.put, List.setIfInBounds_toArray, List.set_cons_zero, List.set_cons_succ]
            refine held_c (i := 23) (by kernel_rfl) (by rfl) (fun K hK => ?_)
            simp only [List.getElem?_toArray, List.getElem?_cons_zero, List.getElem?_cons_succ]
            go_simp
            refine hK.out _ _ hHeld (fun hHeld => ?_)
            clear hK K
            try simp only [Act.put, List.setIfInBounds_toArray, List.set_cons_zero, List.set_cons_succ]
            refine held_w (i := 24) (d := some 61) (v := ?_) rfl (by kernel_rfl) (by kernel_rfl) (by kernel_rfl) (fun _ _ _ h => h) (by rfl) ?_ hHeld ?_
            rotate_left
            · intro w' hSw; obtain ⟨q0, q1, q2, q3, q4⟩ := hSw; simp only [List.getElem?_toArray, List.getElem?_cons_zero, List.getElem?_cons_succ]; go_simp; try with_reducible rfl
            try simp only [Act.put, List.setIfInBounds_toArray, List.set_cons_zero, List.set_cons_succ]
            refine held_w (i := 25) (d := some 62) (v := ?_) rfl (by kernel_rfl) (by kernel_rfl) (by kernel_rfl) (fun _ _ _ h => h) (by rfl) ?_ hHeld ?_
            rotate_left
            · intro w' hSw; obtain ⟨q0, q1, q2, q3, q4⟩ := hSw; simp only [List.getElem?_toArray, List.getElem?_cons_zero, List.getElem?_cons_succ]; go_simp; try with_reducible rfl
            try simp only [Act.put, List.setIfInBounds_toArray, List.set_cons_zero, List.set_cons_succ]
            refine wpAnyH_done (by kernel_rfl) ?_ _
            go_wp2_with fail
            go_roundw
            case rel => exact ⟨i + 1, T, by omega, by go_num, ⟨HF3.out.mono (by omega), HX7.out⟩⟩
            case measure => simp [intOf]; omega
          · refine ⟨by rfl, fun K hK => ?_⟩
            simp only [List.getElem?_toArray, List.getElem?_cons_zero, List.getElem?_cons_succ]
            go_simp
            refine hK.out _ _ hHeld (fun hHeld => ?_)
            clear hK K
            try simp only [Act.put, List.setIfInBounds_toArray, List.set_cons_zero, List.set_cons_succ]
            refine held_c (i := 19) (by kernel_rfl) (by rfl) (fun K hK => ?_)
            simp only [List.getElem?_toArray, List.getElem?_cons_zero, List.getElem?_cons_succ]
            go_simp
            refine (C2.out _ HX6.out).mono ?_
            rintro e v7 ⟨rfl, hx, hb7⟩
            have HX7 := Lib.hid hx
            obtain ⟨l7, p2, p5⟩ := HR.out _ hx
            obtain ⟨m0, m1, m2, m3⟩ := HC.out _ hx.bel
            clear hx hb7
            refine hK.out _ _ ⟨m0, m1, m2, m3, trivial⟩ (fun hHeld => ?_)
            clear hK K
            try simp only [Act.put, List.setIfInBounds_toArray, List.set_cons_zero, List.set_cons_succ]
            refine held_w (i := 24) (d := some 61) (v := ?_) rfl (by kernel_rfl) (by kernel_rfl) (by kernel_rfl) (fun _ _ _ h => h) (by rfl) ?_ hHeld ?_
            rotate_left
            · intro w' hSw; obtain ⟨q0, q1, q2, q3, q4⟩ := hSw; simp only [List.getElem?_toArray, List.getElem?_cons_zero, List.getElem?_cons_succ]; go_simp; try with_reducible rfl
            try simp only [Act.put, List.setIfInBounds_toArray, List.set_cons_zero, List.set_cons_succ]
            refine held_w (i := 25) (d := some 62) (v := ?_) rfl (by kernel_rfl) (by kernel_rfl) (by kernel_rfl) (fun _ _ _ h => h) (by rfl) ?_ hHeld ?_
            rotate_left
            · intro w' hSw; obtain ⟨q0, q1, q2, q3, q4⟩ := hSw; simp only [List.getElem?_toArray, List.getElem?_cons_zero, List.getElem?_cons_succ]; go_simp; try with_reducible rfl
            try simp only [Act.put, List.setIfInBounds_toArray, List.set_cons_zero, List.set_cons_succ]
            refine wpAnyH_done (by kernel_rfl) ?_ _
            go_wp2_with fail
            go_roundw
            case rel => exact ⟨i + 1, T, by omega, by go_num, ⟨HF3.out.mono (by omega), HX7.out⟩⟩
            case measure => simp [intOf]; omega
        · refine ⟨by rfl, fun K hK => ?_⟩
          simp only [List.getElem?_toArray, List.getElem?_cons_zero, List.getElem?_cons_succ]
          go_simp
          refine hK.out _ _ hHeld (fun hHeld => ?_)
          clear hK K
          try simp only [Act.put, List.setIfInBounds_toArray, List.set_cons_zero, List.set_cons_succ]
          refine held_c (i := 10) (by kernel_rfl) (by rfl) (fun K hK => ?_)
          simp only [List.getElem?_toArray, List.getElem?_cons_zero, List.getElem?_cons_succ]
          go_simp
          refine (C1.out _ HX5.out).mono ?_
          rintro e v6 ⟨rfl, hx, hb6⟩
          have HX6 := Lib.hid hx
          obtain ⟨l6, t2, t5⟩ := HR.out _ hx
          obtain ⟨z0, z1', z2, z3⟩ := HC.out _ hx.bel
          clear hx hb6
          refine hK.out _ _ ⟨z0, z1', z2, z3, trivial⟩ (fun hHeld => ?_)
          clear hK K
          try simp only [Act.put, List.setIfInBounds_toArray, List.set_cons_zero, List.set_cons_succ]
          refine held_w (i := 15) (d := some 52) (v := ?_) rfl (by kernel_rfl) (by kernel_rfl) (by kernel_rfl) (fun _ _ _ h => h) (by rfl) ?_ hHeld ?_
          rotate_left
          · intro w' hSw; obtain ⟨q0, q1, q2, q3, q4⟩ := hSw; simp only [List.getElem?_toArray, List.getElem?_cons_zero, List.getElem?_cons_succ]; go_simp; try with_reducible rfl
          try simp only [Act.put, List.setIfInBounds_toArray, List.set_cons_zero, List.set_cons_succ]
          refine held_w (i := 16) (d := some 53) (v := ?_) rfl (by kernel_rfl) (by kernel_rfl) (by kernel_rfl) (fun _ _ _ h => h) (by rfl) ?_ hHeld ?_
          rotate_left
          · intro w' hSw; obtain ⟨q0, q1, q2, q3, q4⟩ := hSw; simp only [List.getElem?_toArray, List.getElem?_cons_zero, List.getElem?_cons_succ]; go_simp; try with_reducible rfl
          try simp only [Act.put, List.setIfInBounds_toArray, List.set_cons_zero, List.set_cons_succ]
          refine held_w (i := 17) (d := some 54) (v := ?_) rfl (by kernel_rfl) (by kernel_rfl) (by kernel_rfl) (fun _ _ _ h => h) (by rfl) ?_ hHeld ?_
          rotate_left
          · intro w' hSw; obtain ⟨q0, q1, q2, q3, q4⟩ := hSw; simp only [List.getElem?_toArray, List.getElem?_cons_zero, List.getElem?_cons_succ]; go_simp; try with_reducible rfl
          try simp only [Act.put, List.setIfInBounds_toArray, List.set_cons_zero, List.set_cons_succ]
          refine held_w (i := 18) (d := some 55) (v := ?_) rfl (by kernel_rfl) (by kernel_rfl) (by kernel_rfl) (fun _ _ _ h => h) (by rfl) ?_ hHeld ?_
          rotate_left
          · intro w' hSw; obtain ⟨q0, q1, q2, q3, q4⟩ := hSw; simp only [List.getElem?_toArray, List.getElem?_cons_zero, List.getElem?_cons_succ]; go_simp; try with_reducible rfl
          try simp only [Act.put, List.setIfInBounds_toArray, List.set_cons_zero, List.set_cons_succ]
          refine held_w (i := 20) (d := some 57) (v := ?_) rfl (by kernel_rfl) (by kernel_rfl) (by kernel_rfl) (fun _ _ _ h => h) (by rfl) ?_ hHeld ?_
          rotate_left
          · intro w' hSw; obtain ⟨q0, q1, q2, q3, q4⟩ := hSw; simp only [List.getElem?_toArray, List.getElem?_cons_zero, List.getElem?_cons_succ]; go_simp; try with_reducible rfl
          try simp only [Act.put, List.setIfInBounds_toArray, List.set_cons_zero, List.set_cons_succ]
          refine held_w (i := 21) (d := some 58) (v := ?_) rfl (by kernel_rfl) (by kernel_rfl) (by kernel_rfl) (fun _ _ _ h => h) (by rfl) ?_ hHeld ?_
          rotate_left
          · intro w' hSw; obtain ⟨q0, q1, q2, q3, q4⟩ := hSw; simp only [List.getElem?_toArray, List.getElem?_cons_zero, List.getElem?_cons_succ]; go_simp; try with_reducible rfl
          try simp only [Act.put, List.setIfInBounds_toArray, List.set_cons_zero, List.set_cons_succ]
          refine held_w (i := 22) (d := some 59) (v := ?_) rfl (by kernel_rfl) (by kernel_rfl) (by kernel_rfl) (fun _ _ _ h => h) (by rfl) ?_ hHeld ?_
          rotate_left
          · intro w' hSw; obtain ⟨q0, q1, q2, q3, q4⟩ := hSw; simp only [List.getElem?_toArray, List.getElem?_cons_zero, List.getElem?_cons_succ]; go_simp; try with_reducible rfl
          try simp only [Act.put, List.setIfInBounds_toArray, List.set_cons_zero, List.set_cons_succ]
          refine held_many (rs := [19, 23]) (by kernel_rfl) (by simp) ⟨?_, ?_, trivial⟩
          · refine ⟨by rfl, fun K hK => ?_⟩
            simp only [List.getElem?_toArray, List.getElem?_cons_zero, List.getElem?_cons_succ]
            go_simp
            refine (C2.out _ HX6.out).mono ?_
            rintro e v7 ⟨rfl, hx, hb7⟩
            have HX7 := Lib.hid hx
            obtain ⟨l7, p2, p5⟩ := HR.out _ hx
            obtain ⟨m0, m1, m2, m3⟩ := HC.out _ hx.bel
            clear hx hb7
            refine hK.out _ _ ⟨m0, m1, m2, m3, trivial⟩ (fun hHeld => ?_)
            clear hK K
            try simp only [Act.put, List.setIfInBounds_toArray, List.set_cons_zero, List.set_cons_succ]
            refine held_c (i := 23) (by kernel_rfl) (by rfl) (fun K hK => ?_)
            simp only [List.getElem?_toArray, List.getElem?_cons_zero, List.getElem?_cons_succ]
            go_simp
            refine hK.out _ _ hHeld (fun hHeld => ?_)
            clear hK K
            try simp only [Act.put, List.setIfInBounds_toArray, List.set_cons_zero, List.set_cons_succ]
            refine held_w (i := 24) (d := some 61) (v := ?_) rfl (by kernel_rfl) (by kernel_rfl) (by kernel_rfl) (fun _ _ _ h => h) (by rfl) ?_ hHeld ?_
            rotate_left
            · intro w' hSw; obtain ⟨q0, q1, q2, q3, q4⟩ := hSw; simp only [List.getElem?_toArray, List.getElem?_cons_zero, List.getElem?_cons_succ]; go_simp; try with_reducible rfl
            try simp only [Act.put, List.setIfInBounds_toArray, List.set_cons_zero, List.set_cons_succ]
            refine held_w (i := 25) (d := some 62) (v := ?_) rfl (by kernel_rfl) (by kernel_rfl) (by kernel_rfl) (fun _ _ _ h => h) (by rfl) ?_ hHeld ?_
            rotate_left
            · intro w' hSw; obtain ⟨q0, q1, q2, q3, q4⟩ := hSw; simp only [List.getElem?_toArray, List.getElem?_cons_zero, List.getElem?_cons_succ]; go_simp; try with_reducible rfl
            try simp only [Act.put, List.setIfInBounds_toArray, List.set_cons_zero, List.set_cons_succ]
            refine wpAnyH_done (by kernel_rfl) ?_ _
            go_wp2_with fail
            go_roundw
            case rel => exact ⟨i + 1, T, by omega, by go_num, ⟨HF3.out.mono (by omega), HX7.out⟩⟩
            case measure => simp [intOf]; omega
          · refine ⟨by rfl, fun K hK => ?_⟩
            simp only [List.getElem?_toArray, List.getElem?_cons_zero, List.getElem?_cons_succ]
            go_simp
            refine hK.out _ _ hHeld (fun hHeld => ?_)
            clear hK K
            try simp only [Act.put, List.setIfInBounds_toArray, List.set_cons_zero, List.set_cons_succ]
            refine held_c (i := 19) (by kernel_rfl) (by rfl) (fun K hK => ?_)
            simp only [List.getElem?_toArray, List.getElem?_cons_zero, List.getElem?_cons_succ]
            go_simp
            refine (C2.out _ HX6.out).mono ?_
            rintro e v7 ⟨rfl, hx, hb7⟩
            have HX7 := Lib.hid hx
            obtain ⟨l7, p2, p5⟩ := HR.out _ hx
            obtain ⟨m0, m1, m2, m3⟩ := HC.out _ hx.bel
            clear hx hb7
            refine hK.out _ _ ⟨m0, m1, m2, m3, trivial⟩ (fun hHeld => ?_)
            clear hK K
            try simp only [Act.put, List.setIfInBounds_toArray, List.set_cons_zero, List.set_cons_succ]
            refine held_w (i := 24) (d := some 61) (v := ?_) rfl (by kernel_rfl) (by kernel_rfl) (by kernel_rfl) (fun _ _ _ h => h) (by rfl) ?_ hHeld ?_
            rotate_left
            · intro w' hSw; obtain ⟨q0, q1, q2, q3, q4⟩ := hSw; simp only [List.getElem?_toArray, List.getElem?_cons_zero, List.getElem?_cons_succ]; go_simp; try with_reducible rfl
            try simp only [Act.put, List.setIfInBounds_toArray, List.set_cons_zero, List.set_cons_succ]
            refine held_w (i := 25) (d := some 62) (v := ?_) rfl (by kernel_rfl) (by kernel_rfl) (by kernel_rfl) (fun _ _ _ h => h) (by rfl) ?_ hHeld ?_
            rotate_left
            · intro w' hSw; obtain ⟨q0, q1, q2, q3, q4⟩ := hSw; simp only [List.getElem?_toArray, List.getElem?_cons_zero, List.getElem?_cons_succ]; go_simp; try with_reducible rfl
            try simp only [Act.put, List.setIfInBounds_toArray, List.set_cons_zero, List.set_cons_succ]
            refine wpAnyH_done (by kernel_rfl) ?_ _
            go_wp2_with fail
            go_roundw
            case rel => exact ⟨i + 1, T, by omega, by go_num, ⟨HF3.out.mono (by omega), HX7.out⟩⟩
            case measure => simp [intOf]; omega
      · obtain rfl : i = N := by omega
        have hfit := HS.out.1.mono (show 2 * i ≤ 800000 by omega)
        have CB := Lib.hid (fun W (hW : BothD w q r S S [] W) => tPowerB hW hfit hfit)
        have CR := Lib.hid (fun W (hW : BothD w q r (powerD S) S [] W) => tPowerR hW (fit_power hfit) hfit)
        obtain ⟨T, hT⟩ : ∃ T, powerD S = T := ⟨_, rfl⟩
        have hf2 := fit_power hfit
        have hn2 : T.n ≤ 512 := by
          obtain ⟨F, G, k1, k2, _⟩ := HS.out.2
          rw [← hT]; exact k2.n2
        rw [hT] at CB CR hf2
        have HF2 := Lib.hid hf2
        obtain ⟨n1, hn1⟩ : ∃ n1, T.n = n1 := ⟨_, rfl⟩
        have HN1 := Lib.hid hn1
        rw [hn1] at hn2
        clear hT hfit hf2 hn1 hlt
        go_wp2_with (first
          | (go_at_call 15; refine (CB.out _ HS.out.2).mono ?_; rintro e v5 ⟨rfl, hx, -⟩; have HX5 := Lib.hid hx; clear hx; dsimp only)
          | (go_at_call 16; refine (CR.out _ HX5.out).mono ?_; rintro e v6 ⟨rfl, hx, -⟩; have HX6 := Lib.hid hx; clear hx; dsimp only))
        go_loopw [8] (fun c wr => ∃ j : Int, -1 ≤ j ∧ j ≤ n1 + 1 ∧ c = .int .i64 j ∧ Hid (BothD w q r T T [] wr)) (fun c _ => ((n1 : Int) + 1 - intOf c).toNat)
        case atStart => exact ⟨-1, by omega, by omega, rfl, HX6.out⟩
        case round =>
          obtain ⟨j, hj1, hj2, rfl, HT⟩ := hrel
          obtain ⟨bj, b2, hrl, hr2⟩ := HT.out.cells
          have c0 := blk_cell hr2 0
          simp only [List.getElem?_toArray, List.getElem?_cons_zero] at c0
          rw [HN1.out] at c0
          clear hr2
          by_cases hlt : j ≤ n1
          · obtain ⟨ra, re, hrd⟩ : ∃ a b, readD T j = (a, b) := ⟨_, _, rfl⟩
            have CRB := Lib.hid (fun W (hW : BothD w q r T T [] W) => tReadB hW HF2.out HF2.out (i := j) (by omega) (by omega))
            have CRR := Lib.hid (fun W (hW : BothD w q r T T [] W) => tReadR hW HF2.out HF2.out (i := j) (by omega) (by omega))
            rw [hrd] at CRB CRR
            clear hrd
            go_wp2_with (first
              | (go_at_call 17; refine (CRB.out _ HT.out).mono ?_; rintro e v7 ⟨rfl, hx, -⟩; have HX7 := Lib.hid hx; clear hx; dsimp only)
              | (go_at_call 18; refine (CRR.out _ HX7.out).mono ?_; rintro e v8 ⟨rfl, rfl⟩; dsimp only))
            go_roundw
            case rel => exact ⟨j + 1, by omega, by omega, by go_num, HX7.out⟩
            case measure => simp [intOf]; omega
          · go_wp2_with fail
            go_ret
            exact ⟨rfl, HT.out.bel⟩

end Go.Proofs.Ytndmndchbfmppaa
