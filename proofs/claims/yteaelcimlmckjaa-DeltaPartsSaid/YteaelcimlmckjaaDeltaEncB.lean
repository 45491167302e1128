/-
  Layer 3 (delta): the program's Encode, the rest of it.
-/
import Derived.Test.YteaelcimlmckjaaDeltaEnc
import Derived.BigQuiet
import Derived.Deep.QuietTactic
namespace Go.Proofs.Yteaelcimlmckjaa
open Go.RowKit Go.Deep
attribute [local go_sem] str_size str_append str_toList str_get str_extract
set_option linter.unusedVariables false
set_option linter.unusedSimpArgs false

theorem inOrder_c (A : Option Addr) (len cap : Nat) (l : List Smp) (w : World) (hlm : len ≤ 100000) (hA : SAt w A len l) :
    Calls Try.prog 15 #[.slice A len cap] w fun e w' => e = .returned (.bool (decide (rises (-1) l))) ∧ Below w.heap.size w w' := by
  have hle := hA.1
  subst hle
  obtain ⟨R, hR⟩ : ∃ R, decide (rises (-1) l) = R := ⟨_, rfl⟩
  rw [hR]
  have HR := Lib.hid hR
  clear hR
  go_enter Try.func15, Try.ntmps15
  go_wp2_with fail
  go_loopw [3, 8] (fun p c wr => ∃ i : Nat, i ≤ l.length ∧ c = .int .i64 i ∧ p = .int .i64 (prevT l i) ∧ Hid (rises (-1) l ↔ rises (prevT l i) (l.drop i)) ∧ Below w.heap.size w wr) (fun _ c _ => l.length - (intOf c).toNat)
  case atStart => exact ⟨0, Nat.zero_le _, rfl, rfl, Iff.rfl, Below.refl _ _⟩
  case round =>
    obtain ⟨i, hi, rfl, rfl, heq, hb⟩ := hrel
    have hbs := hb.size
    by_cases hlt : i < l.length
    · obtain ⟨⟨r1, r2, r3, r4⟩, ad, rfl, h2, h3, h4⟩ := (hA.below hb).2 i hlt
      obtain ⟨t, ht⟩ : ∃ t, l[i].1 = t := ⟨_, rfl⟩
      obtain ⟨v, hv⟩ : ∃ v, l[i].2 = v := ⟨_, rfl⟩
      have hrd := rises_drop l i hlt
      have hps := prevT_succ l i hlt
      rw [ht] at r1 r2 h3 hrd hps
      rw [hv] at h4
      rw [hps] at hrd
      obtain ⟨p, hp⟩ : ∃ p, prevT l i = p := ⟨_, rfl⟩
      rw [hp] at heq hrd ⊢
      have HRD := Lib.hid hrd
      have HPS := Lib.hid hps
      clear hrd hps ht hv hp
      by_cases b1 : t ≤ p
      · have d1 : decide (t ≤ p) = true := by simpa using b1
        have hf : decide (rises (-1) l) = false := decide_eq_false (fun h => by have := HRD.out.1 (heq.out.1 h); omega)
        rw [HR.out] at hf
        have HF := Lib.hid hf
        clear hf b1
        go_wp2_with fail
        go_ret
        exact ⟨ret_bool HF.out.symm, hb.alloc hbs _⟩
      have d1 : decide (t ≤ p) = false := by simp; omega
      by_cases b2 : 1099511627776 ≤ t
      · have d2 : decide (1099511627776 ≤ t) = true := by simpa using b2
        have hf : decide (rises (-1) l) = false := decide_eq_false (fun h => by have := HRD.out.1 (heq.out.1 h); omega)
        rw [HR.out] at hf
        have HF := Lib.hid hf
        clear hf b2
        go_wp2_with fail
        go_ret
        exact ⟨ret_bool HF.out.symm, hb.alloc hbs _⟩
      have d2 : decide (1099511627776 ≤ t) = false := by simp; omega
      have hn : p < t := by omega
      have hn2 : t < 1099511627776 := by omega
      have HN := Lib.hid (And.intro hn hn2)
      clear b1 b2 hn hn2
      go_wp2_with fail
      go_roundw
      case rel =>
        refine ⟨i + 1, by omega, by go_num, by rw [HPS.out], ?_, ?_⟩
        · show _ ↔ _
          rw [heq.out, HRD.out, HPS.out]
          exact ⟨fun h => h.2.2, fun h => ⟨HN.out.1, HN.out.2, h⟩⟩
        · exact hb.alloc hbs _
      case measure => simp [intOf]; omega
    · obtain rfl : i = l.length := by omega
      have hf : decide (rises (-1) l) = true := decide_eq_true (heq.out.2 (by rw [List.drop_length]; exact True.intro))
      rw [HR.out] at hf
      have HF := Lib.hid hf
      clear hf
      go_wp2_with fail
      go_ret
      exact ⟨ret_bool HF.out.symm, hb⟩
theorem dTail_len (t v : Int) (r : List Smp) : (dTail t v r).length ≤ 3 + 22 * r.length := by
  unfold dTail
  split
  · simp
  · have c1 := costN_le (tsF t 0 r) (bestTo (tsF t 0 r) 40) (bestTo_le _ _)
    have c2 := costN_le (vsF v r) (bestTo (vsF v r) 40) (bestTo_le _ _)
    rw [tsF_length] at c1
    rw [vsF_length] at c2
    simp only [List.length_cons, packB_length]
    rw [pairB_length _ _ _ _ (by rw [tsF_length, vsF_length])]
    omega
theorem text_c (A : Option Addr) (len cap : Nat) (l : List Smp) (w : World) (hlm : len ≤ 5000) (hA : SAt w A len l) (hris : rises (-1) l) :
    Calls Try.prog 16 #[.slice A len cap] w fun e w' => e = .returned (.string (str (uv l.length ++ dBody l))) ∧ Below w.heap.size w w' := by
  have hle := hA.1
  subst hle
  cases l with
  | nil =>
    go_enter Try.func16, Try.ntmps16
    go_wp2_with fail
    refine (uint_c 0 _ (by omega)).mono ?_
    rintro e w1 ⟨rfl, hb1⟩
    go_wp2_with fail
    go_ret
    exact ⟨ret_str (by simp [dBody]), hb1⟩
  | cons s r =>
    obtain ⟨t, v⟩ := s
    obtain ⟨⟨r1, r2, r3, r4⟩, ad, rfl, h2, h3, h4⟩ := hA.2 0 (by simp)
    simp only [List.getElem_cons_zero] at r1 r2 r3 r4 h3 h4
    rw [add_nought] at h2 h3 h4
    obtain ⟨q1, q2, q3⟩ := hris
    simp only at q1 q2 q3
    obtain ⟨t, rfl⟩ : ∃ n : Nat, t = n := ⟨t.toNat, by omega⟩
    obtain ⟨n, hn⟩ : ∃ n, r.length + 1 = n := ⟨_, rfl⟩
    simp only [List.length_cons] at hlm hA ⊢
    rw [hn] at hlm hA ⊢
    have hwt : IntKind.u64.wrap (t : Int) = (t : Int) := IntWalk.u64_in _ (by omega)
    have hwl : IntKind.u64.wrap (n : Int) = (n : Int) := IntWalk.u64_in _ (by omega)
    have hn0 : ((n : Int) == 0) = false := by simp; omega
    have hp0 : (0 : Int) < (n : Int) := by omega
    have hp1 : 0 < n := by omega
    have hlu := uv_len10 (n := n) (by omega)
    have hlt' := uv_len10 (n := t) (by omega)
    have hli := iv_len v r3 r4
    have hs1 : ¬ (9223372036854775807 < (uv n).length + (uv t).length) := by omega
    have hs2 : ¬ (9223372036854775807 < (uv n).length + (uv t).length + (iv v).length) := by omega
    have hs3 : ¬ (9223372036854775807 < (uv n).length + ((uv t).length + (iv v).length)) := by omega
    have HC := Lib.hid (fun (wx : World) (h : Below w.heap.size w wx) => (⟨(h.cell (p := ad) h2).trans h3, (h.cell (p := ⟨ad.block, ad.off + 1, none⟩) h2).trans h4⟩ : wx.cell? ad = some (.int .i64 (t : Int)) ∧ wx.cell? ⟨ad.block, ad.off + 1, none⟩ = some (.int .i64 v)))
    have HU := Lib.hid (And.intro q1 (And.intro q2 (And.intro q3 (And.intro r3 r4))))
    have HN := Lib.hid hn
    clear h2 h3 h4 hlu hlt' hli r1 r2 q1 q2 q3 hn
    go_enter Try.func16, Try.ntmps16
    go_wp2_with fail
    refine (uint_c n _ (by omega)).mono ?_
    rintro e w1 ⟨rfl, hb1⟩
    go_wp2_with fail
    refine wp_region_held_drew (S := fun wx => Below w.heap.size w wx ∧ wx.cell? ad = some (.int .i64 (t : Int)) ∧ wx.cell? ⟨ad.block, ad.off + 1, none⟩ = some (.int .i64 v)) (by kernel_rfl) ⟨hb1.drew, HC.out _ hb1.drew⟩ (fun hHeld => ?_)
    refine wpAnyH_gen (fun Wc hWc => ?_)
    rw [← hWc] at hHeld
    clear hWc
    refine held_w (i := 0) (d := some 13) (v := ?_) rfl (by kernel_rfl) (by kernel_rfl) (by kernel_rfl) (fun _ _ _ h => h) (by rfl) ?_ hHeld ?_
    rotate_left
    · intro w' hSw; obtain ⟨q0, q1, q2⟩ := hSw; simp only [List.getElem?_toArray, List.getElem?_cons_zero, List.getElem?_cons_succ]; go_simp; try with_reducible rfl
    try simp only [Act.put, List.setIfInBounds_toArray, List.set_cons_zero, List.set_cons_succ]
    refine held_w (i := 1) (d := some 14) (v := ?_) rfl (by kernel_rfl) (by kernel_rfl) (by kernel_rfl) (fun _ _ _ h => h) (by rfl) ?_ hHeld ?_
    rotate_left
    · intro w' hSw; obtain ⟨q0, q1, q2⟩ := hSw; simp only [List.getElem?_toArray, List.getElem?_cons_zero, List.getElem?_cons_succ]; go_simp; try with_reducible rfl
    try simp only [Act.put, List.setIfInBounds_toArray, List.set_cons_zero, List.set_cons_succ]
    refine held_w (i := 2) (d := some 15) (v := ?_) rfl (by kernel_rfl) (by kernel_rfl) (by kernel_rfl) (fun _ _ _ h => h) (by rfl) ?_ hHeld ?_
    rotate_left
    · intro w' hSw; obtain ⟨q0, q1, q2⟩ := hSw; simp only [List.getElem?_toArray, List.getElem?_cons_zero, List.getElem?_cons_succ]; go_simp; try with_reducible rfl
    try simp only [Act.put, List.setIfInBounds_toArray, List.set_cons_zero, List.set_cons_succ]
    refine held_w (i := 3) (d := some 16) (v := ?_) rfl (by kernel_rfl) (by kernel_rfl) (by kernel_rfl) (fun _ _ _ h => h) (by rfl) ?_ hHeld ?_
    rotate_left
    · intro w' hSw; obtain ⟨q0, q1, q2⟩ := hSw; simp only [List.getElem?_toArray, List.getElem?_cons_zero, List.getElem?_cons_succ]; go_simp; try with_reducible rfl
    try simp only [Act.put, List.setIfInBounds_toArray, List.set_cons_zero, List.set_cons_succ]
    refine held_w (i := 4) (d := some 17) (v := ?_) rfl (by kernel_rfl) (by kernel_rfl) (by kernel_rfl) (fun _ _ _ h => h) (by rfl) ?_ hHeld ?_
    rotate_left
    · intro w' hSw; obtain ⟨q0, q1, q2⟩ := hSw; simp only [List.getElem?_toArray, List.getElem?_cons_zero, List.getElem?_cons_succ]; go_simp; try with_reducible rfl
    try simp only [Act.put, List.setIfInBounds_toArray, List.set_cons_zero, List.set_cons_succ]
    refine held_w (i := 5) (d := some 18) (v := ?_) rfl (by kernel_rfl) (by kernel_rfl) (by kernel_rfl) (fun _ _ _ h => h) (by rfl) ?_ hHeld ?_
    rotate_left
    · intro w' hSw; obtain ⟨q0, q1, q2⟩ := hSw; simp only [List.getElem?_toArray, List.getElem?_cons_zero, List.getElem?_cons_succ]; go_simp; try with_reducible rfl
    try simp only [Act.put, List.setIfInBounds_toArray, List.set_cons_zero, List.set_cons_succ]
    refine held_w (i := 8) (d := some 21) (v := ?_) rfl (by kernel_rfl) (by kernel_rfl) (by kernel_rfl) (fun _ _ _ h => h) (by rfl) ?_ hHeld ?_
    rotate_left
    · intro w' hSw; obtain ⟨q0, q1, q2⟩ := hSw; simp only [List.getElem?_toArray, List.getElem?_cons_zero, List.getElem?_cons_succ]; go_simp; try with_reducible rfl
    try simp only [Act.put, List.setIfInBounds_toArray, List.set_cons_zero, List.set_cons_succ]
    refine held_w (i := 9) (d := some 22) (v := ?_) rfl (by kernel_rfl) (by kernel_rfl) (by kernel_rfl) (fun _ _ _ h => h) (by rfl) ?_ hHeld ?_
    rotate_left
    · intro w' hSw; obtain ⟨q0, q1, q2⟩ := hSw; simp only [List.getElem?_toArray, List.getElem?_cons_zero, List.getElem?_cons_succ]; go_simp; try with_reducible rfl
    try simp only [Act.put, List.setIfInBounds_toArray, List.set_cons_zero, List.set_cons_succ]
    refine held_w (i := 10) (d := some 23) (v := ?_) rfl (by kernel_rfl) (by kernel_rfl) (by kernel_rfl) (fun _ _ _ h => h) (by rfl) ?_ hHeld ?_
    rotate_left
    · intro w' hSw; obtain ⟨q0, q1, q2⟩ := hSw; simp only [List.getElem?_toArray, List.getElem?_cons_zero, List.getElem?_cons_succ]; go_simp; try with_reducible rfl
    try simp only [Act.put, List.setIfInBounds_toArray, List.set_cons_zero, List.set_cons_succ]
    refine held_w (i := 11) (d := some 24) (v := ?_) rfl (by kernel_rfl) (by kernel_rfl) (by kernel_rfl) (fun _ _ _ h => h) (by rfl) ?_ hHeld ?_
    rotate_left
    · intro w' hSw; obtain ⟨q0, q1, q2⟩ := hSw; simp only [List.getElem?_toArray, List.getElem?_cons_zero, List.getElem?_cons_succ]; go_simp; try with_reducible rfl
    try simp only [Act.put, List.setIfInBounds_toArray, List.set_cons_zero, List.set_cons_succ]
    refine held_c (i := 6) (by kernel_rfl) (by rfl) (fun K hK => ?_)
    simp only [List.getElem?_toArray, List.getElem?_cons_zero, List.getElem?_cons_succ]
    go_simp
    refine (uint_c t _ (by have := HU.out.2.1; omega)).mono ?_
    rintro e w2 ⟨rfl, hb2⟩
    have hbc := below2 hHeld.1 hb2 hHeld.1.size
    refine hK.out _ _ ⟨hbc, HC.out _ hbc⟩ (fun hHeld => ?_)
    clear hK K hbc hb2
    try simp only [Act.put, List.setIfInBounds_toArray, List.set_cons_zero, List.set_cons_succ]
    refine held_w (i := 7) (d := some 20) (v := ?_) rfl (by kernel_rfl) (by kernel_rfl) (by kernel_rfl) (fun _ _ _ h => h) (by rfl) ?_ hHeld ?_
    rotate_left
    · intro w' hSw; obtain ⟨q0, q1, q2⟩ := hSw; simp only [List.getElem?_toArray, List.getElem?_cons_zero, List.getElem?_cons_succ]; go_simp; try with_reducible rfl
    try simp only [Act.put, List.setIfInBounds_toArray, List.set_cons_zero, List.set_cons_succ]
    refine held_c (i := 12) (by kernel_rfl) (by rfl) (fun K hK => ?_)
    simp only [List.getElem?_toArray, List.getElem?_cons_zero, List.getElem?_cons_succ]
    go_simp
    refine (int_c v _ HU.out.2.2.2.1 HU.out.2.2.2.2).mono ?_
    rintro e w3 ⟨rfl, hb3⟩
    have hbc := below2 hHeld.1 hb3 hHeld.1.size
    refine hK.out _ _ ⟨hbc, HC.out _ hbc⟩ (fun hHeld => ?_)
    clear hK K hbc hb3
    try simp only [Act.put, List.setIfInBounds_toArray, List.set_cons_zero, List.set_cons_succ]
    refine held_w (i := 13) (d := some 26) (v := ?_) rfl (by kernel_rfl) (by kernel_rfl) (by kernel_rfl) (fun _ _ _ h => h) (by rfl) ?_ hHeld ?_
    rotate_left
    · intro w' hSw; obtain ⟨q0, q1, q2⟩ := hSw; simp only [List.getElem?_toArray, List.getElem?_cons_zero, List.getElem?_cons_succ]; go_simp; try with_reducible rfl
    try simp only [Act.put, List.setIfInBounds_toArray, List.set_cons_zero, List.set_cons_succ]
    refine held_w (i := 14) (d := some 4) (v := ?_) rfl (by kernel_rfl) (by kernel_rfl) (by kernel_rfl) (fun _ _ _ h => h) (by rfl) ?_ hHeld ?_
    rotate_left
    · intro w' hSw; obtain ⟨q0, q1, q2⟩ := hSw; simp only [List.getElem?_toArray, List.getElem?_cons_zero, List.getElem?_cons_succ]; go_simp; try with_reducible rfl
    try simp only [Act.put, List.setIfInBounds_toArray, List.set_cons_zero, List.set_cons_succ]
    refine wpAnyH_done (by kernel_rfl) ?_ _
    have hB3 := hHeld.1
    clear hHeld hs1 hs2 hs3 hp0 hp1 hn0
    by_cases h1 : n = 1
    · have h1b : ((n : Int) == 1) = true := by simp; omega
      have H1 := Lib.hid h1
      clear h1
      go_wp2_with fail
      go_ret
      refine ⟨ret_str ?_, hB3⟩
      have hr0 : r = [] := List.length_eq_zero_iff.1 (by have := HN.out; have := H1.out; omega)
      rw [hr0]
      simp [dBody, dTail]
    · have h1b : ((n : Int) == 1) = false := by simp; omega
      have hr1 : 1 ≤ r.length := by have := HN.out; omega
      have hSA := hA.below hB3
      rw [← HN.out] at hSA
      have hsh := shorten_c (some ad) cap (t : Int) v r _ hSA (by omega) hr1 (by have := HN.out; omega) HU.out.2.2.1
      rw [HN.out] at hsh
      have HSH := Lib.hid hsh
      have hdl := dTail_len (t : Int) v r
      have hs4 : ¬ 9223372036854775807 < (uv n).length + ((uv t).length + (iv v).length) + (dTail (t : Int) v r).length := by
        have := uv_len10 (n := n) (by omega)
        have := uv_len10 (n := t) (by have := HU.out.2.1; omega)
        have := iv_len v HU.out.2.2.2.1 HU.out.2.2.2.2
        have := HN.out
        omega
      clear h1 hSA hsh hr1 hdl
      go_wp2_with fail
      refine HSH.out.mono ?_
      rintro e w4 ⟨rfl, hb4⟩
      go_wp2_with fail
      go_ret
      exact ⟨ret_str (by simp [dBody]), below2 hB3 hb4 hB3.size⟩
theorem encode_c (A : Option Addr) (len cap : Nat) (l : List Smp) (w : World) (hlm : len ≤ maxLen) (hA : SAt w A len l) :
    Calls Try.prog 9 #[.slice A len cap] w fun e w' => e = .returned (.tuple #[.string (str (dEnc l)), .int .i64 (dE l)]) ∧ Below w.heap.size w w' := by
  have hle := hA.1
  subst hle
  unfold maxLen at hlm
  by_cases hbig : 5000 < l.length
  · have he : dE l = 1 := by unfold dE; rw [if_pos hbig]
    have hd : dEnc l = [] := by unfold dEnc; rw [if_neg (by omega)]
    rw [he, hd]
    clear he hd
    go_enter Try.func9, Try.ntmps9
    go_wp2_with fail
    go_ret2
    exact ⟨rfl, Below.refl _ _⟩
  by_cases hr : rises (-1) l
  · have he : dE l = 0 := by unfold dE; rw [if_neg hbig, if_pos hr]
    have hd : dEnc l = uv l.length ++ dBody l := by unfold dEnc; rw [if_pos he]
    rw [he, hd]
    have hio := inOrder_c A l.length cap l w (by omega) hA
    rw [decide_eq_true hr] at hio
    have HR := Lib.hid hr
    have HIO := Lib.hid hio
    clear he hd hr hio
    go_enter Try.func9, Try.ntmps9
    go_wp2_with fail
    refine HIO.out.mono ?_
    rintro e w1 ⟨rfl, hb1⟩
    go_wp2_with fail
    refine (text_c A l.length cap l _ (by omega) (hA.below hb1) HR.out).mono ?_
    rintro e w2 ⟨rfl, hb2⟩
    go_wp2_with fail
    go_ret2
    exact ⟨rfl, below2 hb1 hb2 hb1.size⟩
  · have he : dE l = 30 := by unfold dE; rw [if_neg hbig, if_neg hr]
    have hd : dEnc l = [] := by unfold dEnc; rw [if_neg (by omega)]
    rw [he, hd]
    have hio := inOrder_c A l.length cap l w (by omega) hA
    rw [decide_eq_false hr] at hio
    have HIO := Lib.hid hio
    clear he hd hr hio
    go_enter Try.func9, Try.ntmps9
    go_wp2_with fail
    refine HIO.out.mono ?_
    rintro e w1 ⟨rfl, hb1⟩
    go_wp2_with fail
    go_ret2
    exact ⟨rfl, hb1⟩
end Go.Proofs.Yteaelcimlmckjaa
