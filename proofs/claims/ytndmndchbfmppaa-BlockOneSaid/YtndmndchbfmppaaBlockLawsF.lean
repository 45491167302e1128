/-
  Layer 9 (block): the law BlockOne returns true.
-/
import Derived.Test.YtndmndchbfmppaaBlockMay
import Derived.Test.YtndmndchbfmppaaBlockFacts
import Derived.Test.YtndmndchbfmppaaHeld
import Derived.Deep.RegionLaw
namespace Go.Proofs.Ytndmndchbfmppaa
open Go.RowKit Go.Deep
attribute [local go_sem] str_size str_append str_toList str_get str_extract
set_option linter.unusedVariables false
set_option linter.unusedSimpArgs false
set_option maxRecDepth 100000 in
set_option maxHeartbeats 6000000 in
theorem law_BlockOne (a0 : Option Addr) (len0 cap0 : Nat) (z0 : List BStp) (a1 : Int) (w : World) (hl0 : len0 ≤ maxLen) (w0 : BsAt w a0 len0 z0) (w1 : (Lit.int .u64 a1).wf = true) :
    Calls Try.prog 5 #[.slice a0 len0 cap0, .int .u64 a1] w fun e w' => e = .returned (.bool true) ∧ Below w.heap.size w w' := by
  unfold maxLen at hl0
  obtain ⟨r1, r2⟩ := bounds_u64 w1
  obtain ⟨keep, rfl⟩ : ∃ k : Nat, a1 = k := ⟨a1.toNat, by omega⟩
  have hkeep : keep < 18446744073709551616 := by omega
  have hle := w0.1
  subst hle
  have CL := Lib.hid (bheavy_c a0 z0.length cap0 z0 w (by omega) w0)
  cases hB : heavyB z0 with
  | true =>
    rw [hB] at CL
    clear hB
    go_enter Try.func5, Try.ntmps5
    go_wp2_with (go_at_call 8; refine CL.out.mono ?_; rintro e v1 ⟨rfl, rfl⟩; dsimp only)
    go_ret
    exact ⟨rfl, Below.refl _ _⟩
  | false =>
  have hsm := heavyB_small hB
  rw [hB] at CL
  have HW := Lib.hid w0
  obtain ⟨N, hN⟩ : ∃ N, z0.length = N := ⟨_, rfl⟩
  have HN := Lib.hid hN
  rw [hN] at CL hsm ⊢
  have CN := Lib.hid (oNew_c 12 w w (Below.refl _ w) (by omega) (by omega))
  have m1 := fun W => run_make_row' (P := Try.prog) 30 29 (.slice none 0 0) 24 Try.underlying30 ss_info9 rfl .i64 .i64 12 (by omega) (by omega) W
  simp only [Int.cast_ofNat_Int] at m1
  clear hB w0 hN hl0
  go_enter Try.func5, Try.ntmps5
  go_wp2_with (first
    | (go_at_call 8; refine CL.out.mono ?_; rintro e v1 ⟨rfl, rfl⟩; dsimp only)
    | (go_at_call 9; refine CN.out.mono ?_; rintro e v1 ⟨q, rfl, ho⟩; have HO := Lib.hid ho; clear ho; dsimp only))
  have hb1 := HO.out.bel.size
  have hX1 : Hid (OwnX w q (newD 12) (Xof v1.heap.size (fun _ => 0) 0) (v1.alloc (.cells (madeCells #[.slice none 0 0] 12) 29)) ∧ MayAt w.heap.size v1.heap.size (fun _ => 0) (fun _ => []) 0 (v1.alloc (.cells (madeCells #[.slice none 0 0] 12) 29))) :=
    ⟨OwnX.turned HO.out ((Keeps.refl [] v1).alloc _) (by simp) (fun k hk => by simp [Xof] at hk; subst hk; exact ⟨.inr (Nat.le_refl _), by simp⟩), MayAt.start hb1⟩
  obtain ⟨bm, hbm⟩ : ∃ bm, v1.heap.size = bm := ⟨_, rfl⟩
  rw [hbm] at hX1 hb1 ⊢
  clear hbm
  go_loopw [7] (fun c wr => ∃ (k : Nat) (g : Nat → Nat) (L : Nat → List Byts), k ≤ 12 ∧ c = .int .i64 k ∧ Hid (OwnX w q (newD 12) (Xof bm g k) wr ∧ MayAt w.heap.size bm g L k wr ∧ ∀ j, j < k → L j = [[]])) (fun c _ => 12 - (intOf c).toNat)
  case atStart => exact ⟨0, fun _ => 0, fun _ => [], by omega, rfl, ⟨hX1.out.1, hX1.out.2, fun j hj => by omega⟩⟩
  case round =>
    clear hX1
    obtain ⟨k, g, L, hk, rfl, HK⟩ := hrel
    by_cases hlt : k < 12
    · obtain ⟨d1, f1⟩ := HK.out.2.1.out (Nat.le_refl k) hlt
      have hbl := HK.out.2.1.bmLt
      have hws := HK.out.1.bel.size
      have hput := HK.out.2.1.put (w4 := wr.alloc (.cells #[.string (str [])] 9)) (m := k + 1) (i := k) (by omega) (.inr ⟨rfl, rfl⟩) hws (by rw [if_neg (by omega)]; exact (Keeps.refl [] wr).alloc _) (len := 1) (l := [[]]) rfl (txt_one wr [] _ hws (by simp)) (.inr (Nat.le_refl _))
      rw [World.setCell_alloc_past _ _ _ _ hbl] at hput
      have HP := Lib.hid hput
      clear hput
      go_wp2_with fail
      go_roundw
      case rel =>
        refine ⟨k + 1, fun j => if j = k then wr.heap.size else g j, fun j => if j = k then [[]] else L j, by omega, by go_num, OwnX.turned HK.out.1 HP.out.2.1 HK.out.2.1.xlow HP.out.2.2, HP.out.1, fun j hj => ?_⟩
        by_cases e : j = k
        · simp [e]
        · simp only [if_neg e]; exact HK.out.2.2 j (by omega)
      case measure => simp [intOf]; omega
    · obtain rfl : k = 12 := by omega
      have hL0 : ∀ j, j < 12 → L j = (newD 12).is j :: (newD 12).wt j := fun j hj => HK.out.2.2 j hj
      have HK2 := Lib.hid (And.intro HK.out.1 (And.intro HK.out.2.1 hL0))
      clear hL0 HK
      go_wp2_with fail

      obtain ⟨wo, rfl⟩ : ∃ wo : World, wo = wr := ⟨_, rfl⟩
      go_loopw [8] (fun c wr => ∃ (i : Nat) (S : DSt) (g : Nat → Nat) (L : Nat → List Byts), i ≤ N ∧ c = .int .i64 i ∧ Hid (Calm S 12 ∧ Fit S (2 * i) ∧ OwnX w q S (Xof bm g 12) wr ∧ MayAt w.heap.size bm g L 12 wr ∧ ∀ j, j < 12 → L j = S.is j :: S.wt j)) (fun c _ => N - (intOf c).toNat)
      case atStart => exact ⟨0, _, g, L, Nat.zero_le _, rfl, ⟨calm_new, fit_new 12 0, HK2.out.1, HK2.out.2.1, HK2.out.2.2⟩⟩
      case round =>
        clear HK2
        obtain ⟨i, S, g, L, hi, rfl, HS⟩ := hrel
        by_cases hlt : i < N
        · obtain ⟨ad, kd, I, s, kp, rfl, -, ⟨s1, s2, s3, s4, s5, s6⟩, hcell⟩ := HW.out.cells4 i (by have := HN.out; omega)
          have hadlt := HW.out.lt i (by have := HN.out; omega)
          have HC := Lib.hid hcell
          obtain ⟨x0, x1, x2, x3⟩ := hcell _ HS.out.2.2.1.bel
          clear hcell
          by_cases k0 : kd = 0
          · have t0 : (kd == 0) = true := by simpa using k0
            have t1 : (kd == 1) = false := by rw [beq_eq_false_iff_ne]; omega
            have HO2 := Lib.hid (And.intro HS.out.2.2.1 HS.out.2.2.2.1)
            have CW := Lib.hid (fun W (hW : OwnX w q S (Xof bm g 12) W) => xWrite_c hW (HS.out.2.1.mono (by omega)) s5 s6 s1)
            obtain ⟨ha1, ha2, ha3, ha4⟩ := calm_write_any HS.out.1 I s
            have hf2 := fit_write (i := I) (s := s) HS.out.2.1
            obtain ⟨cd, U, hw⟩ : ∃ cd U, writeD S I s = (cd, U) := ⟨_, _, rfl⟩
            simp only [hw] at CW ha1 ha2 ha3 ha4 hf2
            by_cases hcd : cd = 91
            · subst hcd
              have HU : Hid (Calm U 12 ∧ Fit U (2 * (i + 1)) ∧ ∀ j, j < 12 → L j = U.is j :: U.wt j) := ⟨ha1, hf2.mono (by omega), fun j hj => by rw [ha2, ha3 j (.inl (by decide))]; exact HS.out.2.2.2.2 j hj⟩
              clear ha1 ha2 ha3 ha4 hf2 hw k0
              go_wp2_with fail
              refine wp_region_held_drew (S := fun wx => wx.cell? (ad.add (i * 4)) = some (.int .i64 kd) ∧ wx.cell? ⟨(ad.add (i * 4)).block, (ad.add (i * 4)).off + 1, none⟩ = some (.int .i64 I) ∧ wx.cell? ⟨(ad.add (i * 4)).block, (ad.add (i * 4)).off + 2, none⟩ = some (.string (str s)) ∧ True) (by kernel_rfl) ⟨x0, x1, x2, trivial⟩ (fun hHeld => ?_)
              refine held_w (i := 0) (d := some 34) (v := ?_) rfl (by kernel_rfl) (by kernel_rfl) (by kernel_rfl) (fun _ _ _ h => h) (by rfl) ?_ hHeld ?_
              rotate_left
              · intro w' hSw; obtain ⟨q0, q1, q2, q3⟩ := hSw; simp only [List.getElem?_toArray, List.getElem?_cons_zero, List.getElem?_cons_succ]; go_simp; try with_reducible rfl
              try simp only [Act.put, List.setIfInBounds_toArray, List.set_cons_zero, List.set_cons_succ]
              refine held_w (i := 1) (d := some 35) (v := ?_) rfl (by kernel_rfl) (by kernel_rfl) (by kernel_rfl) (fun _ _ _ h => h) (by rfl) ?_ hHeld ?_
              rotate_left
              · intro w' hSw; obtain ⟨q0, q1, q2, q3⟩ := hSw; simp only [List.getElem?_toArray, List.getElem?_cons_zero, List.getElem?_cons_succ]; go_simp; try with_reducible rfl
              try simp only [Act.put, List.setIfInBounds_toArray, List.set_cons_zero, List.set_cons_succ]
              refine held_w (i := 2) (d := some 36) (v := ?_) rfl (by kernel_rfl) (by kernel_rfl) (by kernel_rfl) (fun _ _ _ h => h) (by rfl) ?_ hHeld ?_
              rotate_left
              · intro w' hSw; obtain ⟨q0, q1, q2, q3⟩ := hSw; simp only [List.getElem?_toArray, List.getElem?_cons_zero, List.getElem?_cons_succ]; go_simp; try with_reducible rfl
              try simp only [Act.put, List.setIfInBounds_toArray, List.set_cons_zero, List.set_cons_succ]
              refine held_w (i := 3) (d := some 37) (v := ?_) rfl (by kernel_rfl) (by kernel_rfl) (by kernel_rfl) (fun _ _ _ h => h) (by rfl) ?_ hHeld ?_
              rotate_left
              · intro w' hSw; obtain ⟨q0, q1, q2, q3⟩ := hSw; simp only [List.getElem?_toArray, List.getElem?_cons_zero, List.getElem?_cons_succ]; go_simp; try with_reducible rfl
              try simp only [Act.put, List.setIfInBounds_toArray, List.set_cons_zero, List.set_cons_succ]
              refine held_w (i := 4) (d := some 38) (v := ?_) rfl (by kernel_rfl) (by kernel_rfl) (by kernel_rfl) (fun _ _ _ h => h) (by rfl) ?_ hHeld ?_
              rotate_left
              · intro w' hSw; obtain ⟨q0, q1, q2, q3⟩ := hSw; simp only [List.getElem?_toArray, List.getElem?_cons_zero, List.getElem?_cons_succ]; go_simp; try with_reducible rfl
              try simp only [Act.put, List.setIfInBounds_toArray, List.set_cons_zero, List.set_cons_succ]
              refine held_w (i := 5) (d := some 39) (v := ?_) rfl (by kernel_rfl) (by kernel_rfl) (by kernel_rfl) (fun _ _ _ h => h) (by rfl) ?_ hHeld ?_
              rotate_left
              · intro w' hSw; obtain ⟨q0, q1, q2, q3⟩ := hSw; simp only [List.getElem?_toArray, List.getElem?_cons_zero, List.getElem?_cons_succ]; go_simp; try with_reducible rfl
              try simp only [Act.put, List.setIfInBounds_toArray, List.set_cons_zero, List.set_cons_succ]
              refine held_w (i := 6) (d := some 40) (v := ?_) rfl (by kernel_rfl) (by kernel_rfl) (by kernel_rfl) (fun _ _ _ h => h) (by rfl) ?_ hHeld ?_
              rotate_left
              · intro w' hSw; obtain ⟨q0, q1, q2, q3⟩ := hSw; simp only [List.getElem?_toArray, List.getElem?_cons_zero, List.getElem?_cons_succ]; go_simp; try with_reducible rfl
              try simp only [Act.put, List.setIfInBounds_toArray, List.set_cons_zero, List.set_cons_succ]
              refine held_w (i := 7) (d := some 41) (v := ?_) rfl (by kernel_rfl) (by kernel_rfl) (by kernel_rfl) (fun _ _ _ h => h) (by rfl) ?_ hHeld ?_
              rotate_left
              · intro w' hSw; obtain ⟨q0, q1, q2, q3⟩ := hSw; simp only [List.getElem?_toArray, List.getElem?_cons_zero, List.getElem?_cons_succ]; go_simp; try with_reducible rfl
              try simp only [Act.put, List.setIfInBounds_toArray, List.set_cons_zero, List.set_cons_succ]
              refine held_w (i := 8) (d := some 42) (v := ?_) rfl (by kernel_rfl) (by kernel_rfl) (by kernel_rfl) (fun _ _ _ h => h) (by rfl) ?_ hHeld ?_
              rotate_left
              · intro w' hSw; obtain ⟨q0, q1, q2, q3⟩ := hSw; simp only [List.getElem?_toArray, List.getElem?_cons_zero, List.getElem?_cons_succ]; go_simp; try with_reducible rfl
              try simp only [Act.put, List.setIfInBounds_toArray, List.set_cons_zero, List.set_cons_succ]
              refine held_w (i := 9) (d := some 43) (v := ?_) rfl (by kernel_rfl) (by kernel_rfl) (by kernel_rfl) (fun _ _ _ h => h) (by rfl) ?_ hHeld ?_
              rotate_left
              · intro w' hSw; obtain ⟨q0, q1, q2, q3⟩ := hSw; simp only [List.getElem?_toArray, List.getElem?_cons_zero, List.getElem?_cons_succ]; go_simp; try with_reducible rfl
              try simp only [Act.put, List.setIfInBounds_toArray, List.set_cons_zero, List.set_cons_succ]
              refine held_w (i := 10) (d := some 44) (v := ?_) rfl (by kernel_rfl) (by kernel_rfl) (by kernel_rfl) (fun _ _ _ h => h) (by rfl) ?_ hHeld ?_
              rotate_left
              · intro w' hSw; obtain ⟨q0, q1, q2, q3⟩ := hSw; simp only [List.getElem?_toArray, List.getElem?_cons_zero, List.getElem?_cons_succ]; go_simp; try with_reducible rfl
              try simp only [Act.put, List.setIfInBounds_toArray, List.set_cons_zero, List.set_cons_succ]
              refine held_w (i := 11) (d := some 45) (v := ?_) rfl (by kernel_rfl) (by kernel_rfl) (by kernel_rfl) (fun _ _ _ h => h) (by rfl) ?_ hHeld ?_
              rotate_left
              · intro w' hSw; obtain ⟨q0, q1, q2, q3⟩ := hSw; simp only [List.getElem?_toArray, List.getElem?_cons_zero, List.getElem?_cons_succ]; go_simp; try with_reducible rfl
              try simp only [Act.put, List.setIfInBounds_toArray, List.set_cons_zero, List.set_cons_succ]
              refine held_w (i := 12) (d := some 46) (v := ?_) rfl (by kernel_rfl) (by kernel_rfl) (by kernel_rfl) (fun _ _ _ h => h) (by rfl) ?_ hHeld ?_
              rotate_left
              · intro w' hSw; obtain ⟨q0, q1, q2, q3⟩ := hSw; simp only [List.getElem?_toArray, List.getElem?_cons_zero, List.getElem?_cons_succ]; go_simp; try with_reducible rfl
              try simp only [Act.put, List.setIfInBounds_toArray, List.set_cons_zero, List.set_cons_succ]
              refine held_w (i := 13) (d := some 47) (v := ?_) rfl (by kernel_rfl) (by kernel_rfl) (by kernel_rfl) (fun _ _ _ h => h) (by rfl) ?_ hHeld ?_
              rotate_left
              · intro w' hSw; obtain ⟨q0, q1, q2, q3⟩ := hSw; simp only [List.getElem?_toArray, List.getElem?_cons_zero, List.getElem?_cons_succ]; go_simp; try with_reducible rfl
              try simp only [Act.put, List.setIfInBounds_toArray, List.set_cons_zero, List.set_cons_succ]
              refine held_w (i := 14) (d := some 48) (v := ?_) rfl (by kernel_rfl) (by kernel_rfl) (by kernel_rfl) (fun _ _ _ h => h) (by rfl) ?_ hHeld ?_
              rotate_left
              · intro w' hSw; obtain ⟨q0, q1, q2, q3⟩ := hSw; simp only [List.getElem?_toArray, List.getElem?_cons_zero, List.getElem?_cons_succ]; go_simp; try with_reducible rfl
              try simp only [Act.put, List.setIfInBounds_toArray, List.set_cons_zero, List.set_cons_succ]
              refine held_w (i := 15) (d := some 49) (v := ?_) rfl (by kernel_rfl) (by kernel_rfl) (by kernel_rfl) (fun _ _ _ h => h) (by rfl) ?_ hHeld ?_
              rotate_left
              · intro w' hSw; obtain ⟨q0, q1, q2, q3⟩ := hSw; simp only [List.getElem?_toArray, List.getElem?_cons_zero, List.getElem?_cons_succ]; go_simp; try with_reducible rfl
              try simp only [Act.put, List.setIfInBounds_toArray, List.set_cons_zero, List.set_cons_succ]
              refine held_w (i := 16) (d := some 50) (v := ?_) rfl (by kernel_rfl) (by kernel_rfl) (by kernel_rfl) (fun _ _ _ h => h) (by rfl) ?_ hHeld ?_
              rotate_left
              · intro w' hSw; obtain ⟨q0, q1, q2, q3⟩ := hSw; simp only [List.getElem?_toArray, List.getElem?_cons_zero, List.getElem?_cons_succ]; go_simp; try with_reducible rfl
              try simp only [Act.put, List.setIfInBounds_toArray, List.set_cons_zero, List.set_cons_succ]
              refine held_w (i := 17) (d := some 51) (v := ?_) rfl (by kernel_rfl) (by kernel_rfl) (by kernel_rfl) (fun _ _ _ h => h) (by rfl) ?_ hHeld ?_
              rotate_left
              · intro w' hSw; obtain ⟨q0, q1, q2, q3⟩ := hSw; simp only [List.getElem?_toArray, List.getElem?_cons_zero, List.getElem?_cons_succ]; go_simp; try with_reducible rfl
              try simp only [Act.put, List.setIfInBounds_toArray, List.set_cons_zero, List.set_cons_succ]
              refine held_c (i := 18) (by kernel_rfl) (by rfl) (fun K hK => ?_)
              simp only [List.getElem?_toArray, List.getElem?_cons_zero, List.getElem?_cons_succ]
              go_simp
              refine (CW.out _ (by first | exact HO2.out.1 | exact HO2.out.1.drew)).mono ?_
              rintro e v5 ⟨rfl, hx, hst⟩
              have HM5 := Lib.hid (And.intro hx (HO2.out.2.stay hst))
              obtain ⟨y0, y1, y2, y3⟩ := HC.out _ hx.bel
              have hb5 := hx.bel
              clear hx hst
              refine hK.out _ _ ⟨y0, y1, y2, trivial⟩ (fun hHeld => ?_)
              clear hK K
              try simp only [Act.put, List.setIfInBounds_toArray, List.set_cons_zero, List.set_cons_succ]
              refine held_w (i := 19) (d := some 53) (v := ?_) rfl (by kernel_rfl) (by kernel_rfl) (by kernel_rfl) (fun _ _ _ h => h) (by rfl) ?_ hHeld ?_
              rotate_left
              · intro w' hSw; obtain ⟨q0, q1, q2, q3⟩ := hSw; simp only [List.getElem?_toArray, List.getElem?_cons_zero, List.getElem?_cons_succ]; go_simp; try with_reducible rfl
              try simp only [Act.put, List.setIfInBounds_toArray, List.set_cons_zero, List.set_cons_succ]
              refine held_w (i := 20) (d := some 54) (v := ?_) rfl (by kernel_rfl) (by kernel_rfl) (by kernel_rfl) (fun _ _ _ h => h) (by rfl) ?_ hHeld ?_
              rotate_left
              · intro w' hSw; obtain ⟨q0, q1, q2, q3⟩ := hSw; simp only [List.getElem?_toArray, List.getElem?_cons_zero, List.getElem?_cons_succ]; go_simp; try with_reducible rfl
              try simp only [Act.put, List.setIfInBounds_toArray, List.set_cons_zero, List.set_cons_succ]
              refine wpAnyH_done (by kernel_rfl) ?_ _
              go_wp2_with fail
              go_roundw
              case rel =>
                repeat apply Exists.intro
                refine ⟨?_, rfl⟩
                exact ⟨i + 1, U, g, L, by omega, by go_num, ⟨HU.out.1, HU.out.2.1, HM5.out.1, HM5.out.2, HU.out.2.2⟩⟩
              case measure => simp [intOf]; omega
            · obtain ⟨e0, g1, g2, g3⟩ := ha4.resolve_left hcd
              subst e0
              obtain ⟨J, rfl⟩ : ∃ J : Nat, I = J := ⟨I.toNat, by omega⟩
              have hJ : J < 12 := by omega
              rw [Int.toNat_natCast] at g3
              have hLJ : (L J).length ≤ 900000 := by rw [HS.out.2.2.2.2 J hJ]; have := HS.out.2.1.2 J; simp; omega
              have HU : Hid (Calm U 12 ∧ Fit U (2 * (i + 1)) ∧ ∀ j, j < 12 → (if j = J then L J ++ [s] else L j) = U.is j :: U.wt j) := ⟨ha1, hf2.mono (by omega), fun j hj => by
                rw [ha2]
                by_cases e : j = J
                · subst e; rw [if_pos rfl, g3, HS.out.2.2.2.2 j hj, List.cons_append]
                · rw [if_neg e, ha3 j (.inr (by omega))]; exact HS.out.2.2.2.2 j hj⟩
              obtain ⟨i0, hi0, hz0, hz1, hz2⟩ := info_parts txt_info
              clear ha1 ha2 ha3 ha4 hf2 hw k0 g1 g2 g3 hcd
              go_wp2_with fail
              refine wp_region_held_drew (S := fun wx => wx.cell? (ad.add (i * 4)) = some (.int .i64 kd) ∧ wx.cell? ⟨(ad.add (i * 4)).block, (ad.add (i * 4)).off + 1, none⟩ = some (.int .i64 (J : Int)) ∧ wx.cell? ⟨(ad.add (i * 4)).block, (ad.add (i * 4)).off + 2, none⟩ = some (.string (str s)) ∧ True) (by kernel_rfl) ⟨x0, x1, x2, trivial⟩ (fun hHeld => ?_)
              refine held_w (i := 0) (d := some 34) (v := ?_) rfl (by kernel_rfl) (by kernel_rfl) (by kernel_rfl) (fun _ _ _ h => h) (by rfl) ?_ hHeld ?_
              rotate_left
              · intro w' hSw; obtain ⟨q0, q1, q2, q3⟩ := hSw; simp only [List.getElem?_toArray, List.getElem?_cons_zero, List.getElem?_cons_succ]; go_simp; try with_reducible rfl
              try simp only [Act.put, List.setIfInBounds_toArray, List.set_cons_zero, List.set_cons_succ]
              refine held_w (i := 1) (d := some 35) (v := ?_) rfl (by kernel_rfl) (by kernel_rfl) (by kernel_rfl) (fun _ _ _ h => h) (by rfl) ?_ hHeld ?_
              rotate_left
              · intro w' hSw; obtain ⟨q0, q1, q2, q3⟩ := hSw; simp only [List.getElem?_toArray, List.getElem?_cons_zero, List.getElem?_cons_succ]; go_simp; try with_reducible rfl
              try simp only [Act.put, List.setIfInBounds_toArray, List.set_cons_zero, List.set_cons_succ]
              refine held_w (i := 2) (d := some 36) (v := ?_) rfl (by kernel_rfl) (by kernel_rfl) (by kernel_rfl) (fun _ _ _ h => h) (by rfl) ?_ hHeld ?_
              rotate_left
              · intro w' hSw; obtain ⟨q0, q1, q2, q3⟩ := hSw; simp only [List.getElem?_toArray, List.getElem?_cons_zero, List.getElem?_cons_succ]; go_simp; try with_reducible rfl
              try simp only [Act.put, List.setIfInBounds_toArray, List.set_cons_zero, List.set_cons_succ]
              refine held_w (i := 3) (d := some 37) (v := ?_) rfl (by kernel_rfl) (by kernel_rfl) (by kernel_rfl) (fun _ _ _ h => h) (by rfl) ?_ hHeld ?_
              rotate_left
              · intro w' hSw; obtain ⟨q0, q1, q2, q3⟩ := hSw; simp only [List.getElem?_toArray, List.getElem?_cons_zero, List.getElem?_cons_succ]; go_simp; try with_reducible rfl
              try simp only [Act.put, List.setIfInBounds_toArray, List.set_cons_zero, List.set_cons_succ]
              refine held_w (i := 4) (d := some 38) (v := ?_) rfl (by kernel_rfl) (by kernel_rfl) (by kernel_rfl) (fun _ _ _ h => h) (by rfl) ?_ hHeld ?_
              rotate_left
              · intro w' hSw; obtain ⟨q0, q1, q2, q3⟩ := hSw; simp only [List.getElem?_toArray, List.getElem?_cons_zero, List.getElem?_cons_succ]; go_simp; try with_reducible rfl
              try simp only [Act.put, List.setIfInBounds_toArray, List.set_cons_zero, List.set_cons_succ]
              refine held_w (i := 5) (d := some 39) (v := ?_) rfl (by kernel_rfl) (by kernel_rfl) (by kernel_rfl) (fun _ _ _ h => h) (by rfl) ?_ hHeld ?_
              rotate_left
              · intro w' hSw; obtain ⟨q0, q1, q2, q3⟩ := hSw; simp only [List.getElem?_toArray, List.getElem?_cons_zero, List.getElem?_cons_succ]; go_simp; try with_reducible rfl
              try simp only [Act.put, List.setIfInBounds_toArray, List.set_cons_zero, List.set_cons_succ]
              refine held_w (i := 6) (d := some 40) (v := ?_) rfl (by kernel_rfl) (by kernel_rfl) (by kernel_rfl) (fun _ _ _ h => h) (by rfl) ?_ hHeld ?_
              rotate_left
              · intro w' hSw; obtain ⟨q0, q1, q2, q3⟩ := hSw; simp only [List.getElem?_toArray, List.getElem?_cons_zero, List.getElem?_cons_succ]; go_simp; try with_reducible rfl
              try simp only [Act.put, List.setIfInBounds_toArray, List.set_cons_zero, List.set_cons_succ]
              refine held_w (i := 7) (d := some 41) (v := ?_) rfl (by kernel_rfl) (by kernel_rfl) (by kernel_rfl) (fun _ _ _ h => h) (by rfl) ?_ hHeld ?_
              rotate_left
              · intro w' hSw; obtain ⟨q0, q1, q2, q3⟩ := hSw; simp only [List.getElem?_toArray, List.getElem?_cons_zero, List.getElem?_cons_succ]; go_simp; try with_reducible rfl
              try simp only [Act.put, List.setIfInBounds_toArray, List.set_cons_zero, List.set_cons_succ]
              refine held_w (i := 8) (d := some 42) (v := ?_) rfl (by kernel_rfl) (by kernel_rfl) (by kernel_rfl) (fun _ _ _ h => h) (by rfl) ?_ hHeld ?_
              rotate_left
              · intro w' hSw; obtain ⟨q0, q1, q2, q3⟩ := hSw; simp only [List.getElem?_toArray, List.getElem?_cons_zero, List.getElem?_cons_succ]; go_simp; try with_reducible rfl
              try simp only [Act.put, List.setIfInBounds_toArray, List.set_cons_zero, List.set_cons_succ]
              refine held_w (i := 9) (d := some 43) (v := ?_) rfl (by kernel_rfl) (by kernel_rfl) (by kernel_rfl) (fun _ _ _ h => h) (by rfl) ?_ hHeld ?_
              rotate_left
              · intro w' hSw; obtain ⟨q0, q1, q2, q3⟩ := hSw; simp only [List.getElem?_toArray, List.getElem?_cons_zero, List.getElem?_cons_succ]; go_simp; try with_reducible rfl
              try simp only [Act.put, List.setIfInBounds_toArray, List.set_cons_zero, List.set_cons_succ]
              refine held_w (i := 10) (d := some 44) (v := ?_) rfl (by kernel_rfl) (by kernel_rfl) (by kernel_rfl) (fun _ _ _ h => h) (by rfl) ?_ hHeld ?_
              rotate_left
              · intro w' hSw; obtain ⟨q0, q1, q2, q3⟩ := hSw; simp only [List.getElem?_toArray, List.getElem?_cons_zero, List.getElem?_cons_succ]; go_simp; try with_reducible rfl
              try simp only [Act.put, List.setIfInBounds_toArray, List.set_cons_zero, List.set_cons_succ]
              refine held_w (i := 11) (d := some 45) (v := ?_) rfl (by kernel_rfl) (by kernel_rfl) (by kernel_rfl) (fun _ _ _ h => h) (by rfl) ?_ hHeld ?_
              rotate_left
              · intro w' hSw; obtain ⟨q0, q1, q2, q3⟩ := hSw; simp only [List.getElem?_toArray, List.getElem?_cons_zero, List.getElem?_cons_succ]; go_simp; try with_reducible rfl
              try simp only [Act.put, List.setIfInBounds_toArray, List.set_cons_zero, List.set_cons_succ]
              refine held_w (i := 12) (d := some 46) (v := ?_) rfl (by kernel_rfl) (by kernel_rfl) (by kernel_rfl) (fun _ _ _ h => h) (by rfl) ?_ hHeld ?_
              rotate_left
              · intro w' hSw; obtain ⟨q0, q1, q2, q3⟩ := hSw; simp only [List.getElem?_toArray, List.getElem?_cons_zero, List.getElem?_cons_succ]; go_simp; try with_reducible rfl
              try simp only [Act.put, List.setIfInBounds_toArray, List.set_cons_zero, List.set_cons_succ]
              refine held_w (i := 13) (d := some 47) (v := ?_) rfl (by kernel_rfl) (by kernel_rfl) (by kernel_rfl) (fun _ _ _ h => h) (by rfl) ?_ hHeld ?_
              rotate_left
              · intro w' hSw; obtain ⟨q0, q1, q2, q3⟩ := hSw; simp only [List.getElem?_toArray, List.getElem?_cons_zero, List.getElem?_cons_succ]; go_simp; try with_reducible rfl
              try simp only [Act.put, List.setIfInBounds_toArray, List.set_cons_zero, List.set_cons_succ]
              refine held_w (i := 14) (d := some 48) (v := ?_) rfl (by kernel_rfl) (by kernel_rfl) (by kernel_rfl) (fun _ _ _ h => h) (by rfl) ?_ hHeld ?_
              rotate_left
              · intro w' hSw; obtain ⟨q0, q1, q2, q3⟩ := hSw; simp only [List.getElem?_toArray, List.getElem?_cons_zero, List.getElem?_cons_succ]; go_simp; try with_reducible rfl
              try simp only [Act.put, List.setIfInBounds_toArray, List.set_cons_zero, List.set_cons_succ]
              refine held_w (i := 15) (d := some 49) (v := ?_) rfl (by kernel_rfl) (by kernel_rfl) (by kernel_rfl) (fun _ _ _ h => h) (by rfl) ?_ hHeld ?_
              rotate_left
              · intro w' hSw; obtain ⟨q0, q1, q2, q3⟩ := hSw; simp only [List.getElem?_toArray, List.getElem?_cons_zero, List.getElem?_cons_succ]; go_simp; try with_reducible rfl
              try simp only [Act.put, List.setIfInBounds_toArray, List.set_cons_zero, List.set_cons_succ]
              refine held_w (i := 16) (d := some 50) (v := ?_) rfl (by kernel_rfl) (by kernel_rfl) (by kernel_rfl) (fun _ _ _ h => h) (by rfl) ?_ hHeld ?_
              rotate_left
              · intro w' hSw; obtain ⟨q0, q1, q2, q3⟩ := hSw; simp only [List.getElem?_toArray, List.getElem?_cons_zero, List.getElem?_cons_succ]; go_simp; try with_reducible rfl
              try simp only [Act.put, List.setIfInBounds_toArray, List.set_cons_zero, List.set_cons_succ]
              refine held_w (i := 17) (d := some 51) (v := ?_) rfl (by kernel_rfl) (by kernel_rfl) (by kernel_rfl) (fun _ _ _ h => h) (by rfl) ?_ hHeld ?_
              rotate_left
              · intro w' hSw; obtain ⟨q0, q1, q2, q3⟩ := hSw; simp only [List.getElem?_toArray, List.getElem?_cons_zero, List.getElem?_cons_succ]; go_simp; try with_reducible rfl
              try simp only [Act.put, List.setIfInBounds_toArray, List.set_cons_zero, List.set_cons_succ]
              refine held_c (i := 18) (by kernel_rfl) (by rfl) (fun K hK => ?_)
              simp only [List.getElem?_toArray, List.getElem?_cons_zero, List.getElem?_cons_succ]
              go_simp
              refine (CW.out _ (by first | exact HO2.out.1 | exact HO2.out.1.drew)).mono ?_
              rintro e v5 ⟨rfl, hx, hst⟩
              have HM5 := Lib.hid (And.intro hx (HO2.out.2.stay hst))
              obtain ⟨y0, y1, y2, y3⟩ := HC.out _ hx.bel
              have hb5 := hx.bel
              clear hx hst
              refine hK.out _ _ ⟨y0, y1, y2, trivial⟩ (fun hHeld => ?_)
              clear hK K
              try simp only [Act.put, List.setIfInBounds_toArray, List.set_cons_zero, List.set_cons_succ]
              refine held_w (i := 19) (d := some 53) (v := ?_) rfl (by kernel_rfl) (by kernel_rfl) (by kernel_rfl) (fun _ _ _ h => h) (by rfl) ?_ hHeld ?_
              rotate_left
              · intro w' hSw; obtain ⟨q0, q1, q2, q3⟩ := hSw; simp only [List.getElem?_toArray, List.getElem?_cons_zero, List.getElem?_cons_succ]; go_simp; try with_reducible rfl
              try simp only [Act.put, List.setIfInBounds_toArray, List.set_cons_zero, List.set_cons_succ]
              refine held_w (i := 20) (d := some 54) (v := ?_) rfl (by kernel_rfl) (by kernel_rfl) (by kernel_rfl) (fun _ _ _ h => h) (by rfl) ?_ hHeld ?_
              rotate_left
              · intro w' hSw; obtain ⟨q0, q1, q2, q3⟩ := hSw; simp only [List.getElem?_toArray, List.getElem?_cons_zero, List.getElem?_cons_succ]; go_simp; try with_reducible rfl
              try simp only [Act.put, List.setIfInBounds_toArray, List.set_cons_zero, List.set_cons_succ]
              refine wpAnyH_done (by kernel_rfl) ?_ _
              skip
              have hb5s := hb5.size
              have hbm5 := HM5.out.2.bmLt
              have had5 : (ad.add (i * 4)).block < v5.heap.size := by omega
              obtain ⟨c, d1, f1, hN5⟩ := HM5.out.2.at hJ
              have hgJ := HM5.out.2.rowLt hJ
              have hgne := HM5.out.2.ne J hJ
              have hadb : ¬ (ad.add (i * 4)).block = bm := by have := HM5.out.2.low.1; omega
              obtain ⟨ln, hln⟩ : ∃ ln, (L J).length = ln := ⟨_, rfl⟩
              rw [hln] at d1 hLJ
              have HN5 := Lib.hid (And.intro hN5 hln)
              have hown : v5.ownsRow w.heap.size 9 1 (.slice (some ⟨g J, 0, none⟩) ln c) ln (txtC (L J)) := by have := hN5.own; rw [hln] at this; exact this
              have HOW := Lib.hid hown
              clear hN5 hln hown
              go_wp2_with fail
              go_region_law (first
                | (refine step_app (by rfl) (.tmp 82) (.tmp 88) 29 (by rfl) w.heap.size 9 i0 (.string ⟨#[]⟩) 1 16 Try.underlying29 hi0 hz0 hz1 hz2 rfl (by decide) (.slice (some ⟨g J, 0, none⟩) ln c) ln _ (by rfl) (HOW.out.alloc _) ⟨v5.heap.size, 0, none⟩ 1 1 [.string (str s)] (by rfl) rfl (cell_one_new _ _ _) (by intro u hu; simp at hu; subst hu; rfl) (by unfold maxLen; omega) (by omega) (by simp; omega) ?_
                   intro A4 c4 w4 o1 o2 o3
                   have o2' : World.grownBy (v5.alloc (.cells #[.string (str s)] 9)) w4 (Value.slice (some ⟨g J, 0, none⟩) ln c).ownBlock := by first | exact o2 | exact grown_drew9 o2 | exact grown_drew9 (grown_drew9 o2)
                   have KK : Keeps [g J] v5 w4 := ((Keeps.refl [g J] v5).alloc _).grown o2' (fun k hk => .inl (by simp [Value.ownBlock] at hk; simp [hk]))
                   have hb6 : Below w.heap.size w w4 := hb5.trans (KK.to hb5s (fun f hf => by simp at hf; subst hf; exact HM5.out.2.low.2 J hJ))
                   obtain ⟨p0, p1, p2, p3⟩ := HC.out _ hb6
                   have HN6 : Hid (NewT w.heap.size (.slice A4 (ln + 1) c4) (L J ++ [s]) w4 ∧ (L J ++ [s]).length = ln + 1) := ⟨⟨by rw [txtC_append, List.length_append, HN5.out.2]; exact o1, fun x hx => by
                     rcases List.mem_append.1 hx with hx | hx
                     · exact HN5.out.1.rng x hx
                     · simp at hx; subst hx; exact s1⟩, by rw [List.length_append, HN5.out.2]; rfl⟩
                   obtain ⟨g4, eg, hg4, hg5⟩ := NewT.block HN6.out.1 (by simp)
                   subst eg
                   have hor : Hid ((J < 12 ∧ g4 = g J) ∨ v5.heap.size ≤ g4) := by
                     rcases o3 with e | e
                     · left; refine ⟨hJ, ?_⟩; simp [Value.ownBlock] at e; exact e
                     · right; simp [Value.ownBlock] at e; omega
                   have d1' := (World.cell?_of_block (w := v5) (w' := w4) (a := ⟨bm, J, none⟩) (KK.same bm hbm5 (by simp; exact fun e => hgne e.symm))).trans d1
                   have f1' := (World.frozen?_of_block (w := v5) (w' := w4) (a := ⟨bm, J, none⟩) (KK.same bm hbm5 (by simp; exact fun e => hgne e.symm))).trans f1
                   have pz := fun v => (HC.out (w4.setCell ⟨bm, J, none⟩ v) (hb6.setCell (by exact HM5.out.2.low.1) v)).1
                   have HKK := Lib.hid KK
                   clear o1 o2 o3 o2' KK))
              all_goals
                have hput := HM5.out.2.put (w4 := w4) (m := 12) (i := J) (g' := g4) (len := ln + 1) (c := c4) (l := L J ++ [s]) (by omega) (.inl ⟨hJ, rfl⟩) hb5s (by rw [if_pos hJ]; exact HKK.out) HN6.out.2.symm (by rw [HN6.out.2]; exact HN6.out.1) hor.out
                have HP := Lib.hid hput
                clear hput
                go_wp2_with fail
                go_roundw
                case rel =>
                  first
                  | exact ⟨i + 1, U, _, _, by omega, by go_num, ⟨HU.out.1, HU.out.2.1, by first | exact OwnX.turned (HM5.out.1.below (Below.refl _ _)) HP.out.2.1 HM5.out.2.xlow HP.out.2.2, HP.out.1, HU.out.2.2⟩⟩
                  | (repeat apply Exists.intro
                     refine ⟨?_, rfl⟩
                     exact ⟨i + 1, U, _, _, by omega, by go_num, ⟨HU.out.1, HU.out.2.1, OwnX.turned HM5.out.1 HP.out.2.1 HM5.out.2.xlow HP.out.2.2, HP.out.1, HU.out.2.2⟩⟩)
                case measure => simp [intOf]; omega
          · by_cases k1 : kd = 1
            · have t0 : (kd == 0) = false := by simpa using k0
              have t1 : (kd == 1) = true := by simpa using k1
              obtain ⟨ef, hc2⟩ := calm_flush HS.out.1
              have hf2 := fit_flush HS.out.2.1
              rw [ef] at hf2
              have CF := Lib.hid (fun W (hW : OwnX w q S (Xof bm g 12) W) => xFlush_c hW (HS.out.2.1.mono (by omega)))
              rw [ef] at CF
              have hw2 : ∀ j, (settleD { S with calls := S.calls + 1 }).wt j = [] := fun _ => rfl
              have hi2 : ∀ j, (settleD { S with calls := S.calls + 1 }).is j = (S.wt j).getLastD (S.is j) := fun _ => rfl
              obtain ⟨S2, hS2⟩ : ∃ S2, settleD { S with calls := S.calls + 1 } = S2 := ⟨_, rfl⟩
              simp only [hS2] at CF hc2 hf2 hw2 hi2
              have HU := Lib.hid (And.intro hc2 (And.intro hf2 (And.intro hw2 hi2)))
              have HO2 := Lib.hid (And.intro HS.out.2.2.1 HS.out.2.2.2.1)
              clear ef hc2 hf2 hw2 hi2 hS2 k0 k1
              go_wp2_with fail
              go_quiet (fail)
              go_wp2_with (go_at_call 20; refine (CF.out _ (by first | exact HO2.out.1.drewN _ | exact HO2.out.1.drew)).mono ?_; rintro e v5 ⟨rfl, hx, hst⟩; have HM5 := Lib.hid (And.intro hx (HO2.out.2.stay (show Stay (Xof bm g 12) _ v5 from hst))); clear hx hst; dsimp only)
              go_loopw [9] (fun c wx => ∃ (k : Nat) (g' : Nat → Nat) (L' : Nat → List Byts), k ≤ 12 ∧ c = .int .i64 k ∧ Hid (OwnX w q S2 (Xof bm g' 12) wx ∧ MayAt w.heap.size bm g' L' 12 wx ∧ ∀ j, j < 12 → L' j = if j < k then [S2.is j] else S.is j :: S.wt j)) (fun c _ => 12 - (intOf c).toNat)
              case atStart => exact ⟨0, g, L, by omega, rfl, ⟨HM5.out.1, HM5.out.2, fun j hj => by rw [if_neg (by omega)]; exact HS.out.2.2.2.2 j hj⟩⟩
              case round =>
                obtain ⟨k, g', L', hk, rfl, HK⟩ := hrel
                by_cases hltk : k < 12
                · obtain ⟨c, d1, f1, hN5⟩ := HK.out.2.1.at hltk
                  have hLk := HK.out.2.2 k hltk
                  rw [if_neg (by omega)] at hLk
                  have hbl := HK.out.2.1.bmLt
                  have hws := HK.out.1.bel.size
                  have hlen : (L' k).length = (S.wt k).length + 1 := by rw [hLk]; simp
                  have hlm : (S.wt k).length ≤ 900000 := by have := HS.out.2.1.2 k; omega
                  obtain ⟨k1, ad2, ea, k2, k3⟩ := hN5.is.2.2 (S.wt k).length (by omega)
                  injection ea with ea
                  subst ea
                  have e3 : (L' k)[(S.wt k).length]'(by omega) = S2.is k := by
                    rw [HU.out.2.2.2 k]
                    simp only [hLk]
                    exact cons_last _ _
                  rw [e3] at k3 k1
                  rw [add_zero9] at k3
                  obtain ⟨m, hm⟩ : ∃ m, (S.wt k).length = m := ⟨_, rfl⟩
                  obtain ⟨M, hM⟩ : ∃ M, (L' k).length = M := ⟨_, rfl⟩
                  rw [hm] at k3 hlen hlm
                  rw [hM] at d1 hlen
                  have u1 : (M : Int) - 1 = (m : Int) := by omega
                  have u2 : IntKind.i64.wrap ((M : Int) - 1) = (m : Int) := by rw [u1]; exact IntWalk.i64_in _ (by omega)
                  have u3 : m < M := by omega
                  have key : ∀ n, OwnX w q S2 (Xof bm (fun j => if j = k then wr.heap.size else g' j) 12) (((wr.drewN n).alloc (.cells #[.string (str (S2.is k))] 9)).setCell ⟨bm, k, none⟩ (.slice (some ⟨wr.heap.size, 0, none⟩) 1 1)) ∧ MayAt w.heap.size bm (fun j => if j = k then wr.heap.size else g' j) (fun j => if j = k then [S2.is k] else L' j) 12 (((wr.drewN n).alloc (.cells #[.string (str (S2.is k))] 9)).setCell ⟨bm, k, none⟩ (.slice (some ⟨wr.heap.size, 0, none⟩) 1 1)) := fun n => by
                    have hMn := HK.out.2.1.stay (show Stay (Xof bm g' 12) wr (wr.drewN n) from Stay.refl _ _)
                    have h := hMn.put (w4 := (wr.drewN n).alloc (.cells #[.string (str (S2.is k))] 9)) (m := 12) (i := k) (g' := wr.heap.size) (len := 1) (c := 1) (l := [S2.is k]) (by omega) (.inl ⟨hltk, rfl⟩) hws (by rw [if_pos hltk]; exact (Keeps.refl _ _).alloc _) rfl (txt_one (wr.drewN n) (S2.is k) _ hws k1) (.inr (Nat.le_refl _))
                    exact ⟨OwnX.turned (HK.out.1.drewN n) h.2.1 hMn.xlow h.2.2, h.1⟩
                  have hbq : ∀ n, bm < (wr.drewN n).heap.size := fun _ => hbl
                  have dq : ∀ n, ((wr.drewN n).alloc (.cells #[.string (str (S2.is k))] 9)).cell? ⟨bm, k, none⟩ = some (.slice (some ⟨g' k, 0, none⟩) M c) := fun n => (((Below.refl _ (wr.drewN n)).alloc (Nat.le_refl _) (.cells #[.string (str (S2.is k))] 9)).cell (p := ⟨bm, k, none⟩) hbl).trans d1
                  have fq : ∀ n, ((wr.drewN n).alloc (.cells #[.string (str (S2.is k))] 9)).frozen? ⟨bm, k, none⟩ = false := fun n => (((Below.refl _ (wr.drewN n)).alloc (Nat.le_refl _) (.cells #[.string (str (S2.is k))] 9)).frozen (p := ⟨bm, k, none⟩) hbl).trans f1
                  have KEY := Lib.hid key
                  clear key hN5 hLk hlen hm hM e3
                  go_wp2_with fail
                  go_quiet (fail)
                  go_wp2_with fail
                  go_roundw
                  case rel =>
                    refine ⟨k + 1, fun j => if j = k then wr.heap.size else g' j, fun j => if j = k then [S2.is k] else L' j, by omega, by go_num, (KEY.out _).1, (KEY.out _).2, fun j hj => ?_⟩
                    by_cases e : j = k
                    · simp [e]
                    · simp only [if_neg e]
                      rw [HK.out.2.2 j hj]
                      by_cases e2 : j < k
                      · rw [if_pos e2, if_pos (by omega)]
                      · rw [if_neg e2, if_neg (by omega)]
                  case measure => simp [intOf]; omega
                · obtain rfl : k = 12 := by omega
                  have HFIN : Hid (∀ j, j < 12 → L' j = S2.is j :: S2.wt j) := fun j hj => by rw [HK.out.2.2 j hj, if_pos hj, HU.out.2.2.1 j]
                  clear hltk
                  go_wp2_with fail
                  go_roundw
                  case rel =>
                    first
                    | exact ⟨i + 1, S2, g', L', by omega, by go_num, ⟨HU.out.1, HU.out.2.1.mono (by omega), HK.out.1, HK.out.2.1, HFIN.out⟩⟩
                    | (repeat apply Exists.intro
                       refine ⟨?_, rfl⟩
                       exact ⟨i + 1, S2, g', L', by omega, by go_num, ⟨HU.out.1, HU.out.2.1.mono (by omega), HK.out.1, HK.out.2.1, HFIN.out⟩⟩)
                  case measure => simp [intOf]; omega
            · have t0 : (kd == 0) = false := by simpa using k0
              have t1 : (kd == 1) = false := by simpa using k1
              have HO2 := Lib.hid (And.intro HS.out.2.2.1 HS.out.2.2.2.1)
              have HU := Lib.hid (And.intro HS.out.1 (And.intro (HS.out.2.1.mono (show 2 * i ≤ 2 * (i + 1) by omega)) HS.out.2.2.2.2))
              clear k0 k1
              go_wp2_with fail
              go_quiet (fail)
              go_wp2_with fail
              go_roundw
              case rel => exact ⟨i + 1, S, g, L, by omega, by go_num, ⟨HU.out.1, HU.out.2.1, HO2.out.1.drewN _, HO2.out.2.stay (Stay.refl _ _), HU.out.2.2⟩⟩
              case measure => simp [intOf]; omega
        · obtain rfl : i = N := by omega
          obtain ⟨k1, k2, k3, k4⟩ := calm_fell HS.out.1 keep
          have hfit := HS.out.2.1.mono (show 2 * i ≤ 800000 by omega)
          have hf3 := fit_down (keep := keep) hfit
          have CC := Lib.hid (xCrash_c HS.out.2.2.1 (hfit.mono (by omega)) (keep := keep) hkeep)
          have CD := Lib.hid (fun W (hW : OwnX w q (downD S keep) (Xof bm g 12) W) => xDead_c hW (hf3.mono (by omega)))
          have CW := Lib.hid (fun W (hW : OwnX w q (downD S keep) (Xof bm g 12) W) => xWrite_c hW (hf3.mono (by omega)) (i := 0) (s := []) (by omega) (by omega) (by simp))
          have CP := Lib.hid (fun W (hW : OwnX w q (downD S keep) (Xof bm g 12) W) => xPower_c hW (hf3.mono (by omega)))
          have hwd : writeD (downD S keep) 0 [] = (90, downD S keep) := by unfold writeD; rw [if_pos k1]
          rw [k1] at CD
          rw [hwd] at CW
          have hf4 : Fit (fellD S keep) 800000 := fit_power hf3
          have hrd : ∀ j : Nat, j < 12 → ∃ x, readD (fellD S keep) (j : Int) = (x, 0) ∧ x ∈ L j ∧ (keep = 0 → x = S.is j) ∧ (L j).length ≤ 900000 := fun j hj => by
            rw [calm_read k2 (by omega), Int.toNat_natCast, k3, k4]
            refine ⟨_, rfl, ?_, fun h => ?_, ?_⟩
            · rw [HS.out.2.2.2.2 j hj]
              show fallen keep S.is S.wt j ∈ _
              rcases fallen_one keep S.is S.wt j with e | e
              · rw [e]; simp
              · simp [e]
            · subst h; exact fallen_zero S.is S.wt j
            · rw [HS.out.2.2.2.2 j hj]; have := HS.out.2.1.2 j; simp; omega
          have HRD := Lib.hid hrd
          have HF4 := Lib.hid (hf4.mono (show 800000 ≤ 900000 by omega))
          have HML := Lib.hid (And.intro HS.out.2.2.2.1 HS.out.2.2.2.2)
          clear k1 k2 k3 k4 hfit hf3 hf4 hwd hrd hlt
          obtain ⟨wq, rfl⟩ : ∃ wq : World, wq = wr := ⟨_, rfl⟩
          go_wp2_with (first
            | (go_at_call 21; refine CC.out.mono ?_; rintro e v6 ⟨rfl, hx, hst⟩; have HX6 := Lib.hid (And.intro hx (HML.out.1.stay hst)); clear hx hst; dsimp only)
            | (go_at_call 13; refine (CD.out _ HX6.out.1).mono ?_; rintro e v7 ⟨rfl, hx, hst⟩; have HX7 := Lib.hid (And.intro hx (HX6.out.2.stay hst)); clear hx hst; dsimp only)
            | (go_at_call 19; refine (CW.out _ HX7.out.1).mono ?_; rintro e v8 ⟨rfl, hx, hst⟩; have HX8 := Lib.hid (And.intro hx (HX7.out.2.stay hst)); clear hx hst; dsimp only)
            | (go_at_call 15; refine (CP.out _ HX8.out.1).mono ?_; rintro e v9 ⟨rfl, hx, hst⟩; have HX9 := Lib.hid (And.intro hx (HX8.out.2.stay hst)); clear hx hst; dsimp only))
          go_loopw [11] (fun c wr => ∃ j : Nat, j ≤ 12 ∧ c = .int .i64 j ∧ Hid (OwnX w q (fellD S keep) (Xof bm g 12) wr ∧ MayAt w.heap.size bm g L 12 wr)) (fun c _ => 12 - (intOf c).toNat)
          case atStart => exact ⟨0, by omega, rfl, HX9.out⟩
          case round =>
            obtain ⟨j, hj, rfl, HJ⟩ := hrel
            by_cases hlt : j < 12
            · obtain ⟨x, hx1, hx2, hx3, hx4⟩ := HRD.out j hlt
              have CR := Lib.hid (xRead_c HJ.out.1 HF4.out (i := (j : Int)) (by omega) (by omega))
              rw [hx1] at CR
              have h0 : ∀ h : 0 < (L j).length, keep = 0 → (L j)[0] = x := fun h hk => by
                rw [hx3 hk]
                have := HML.out.2 j hlt
                simp only [this]
                rfl
              have hne : 0 < (L j).length := List.length_pos_of_mem hx2
              have HXX := Lib.hid (And.intro hx2 h0)
              clear hx1 hx2 hx3 h0
              go_wp2_with (go_at_call 17; refine CR.out.mono ?_; rintro e v10 ⟨rfl, hx, hst⟩; have HX10 := Lib.hid (And.intro hx (HJ.out.2.stay hst)); clear hx hst; dsimp only)
              obtain ⟨c, d1, f1, hN5⟩ := HX10.out.2.at hlt
              obtain ⟨M, hM⟩ : ∃ M, (L j).length = M := ⟨_, rfl⟩
              have hT := hN5.is
              rw [hM] at d1 hx4 hne hT
              have HT := Lib.hid (And.intro hT hM)
              clear hN5 hM hT
              go_loopw [14, 15] (fun b c wr => ∃ m : Nat, m ≤ M ∧ c = .int .i64 m ∧ b = .bool (decide (x ∈ (L j).take m)) ∧ v10 = wr) (fun _ c _ => M - (intOf c).toNat)
              case atStart => exact ⟨0, by omega, rfl, by simp, rfl⟩
              case round =>
                obtain ⟨m, hm, rfl, rfl, rfl⟩ := hrel
                obtain ⟨bb, hbb⟩ : ∃ bb, decide (x ∈ (L j).take m) = bb := ⟨_, rfl⟩
                rw [hbb]
                by_cases hlm : m < M
                · obtain ⟨_, ad2, ea, k2, k3⟩ := HT.out.1.2.2 m (by rw [HT.out.2]; exact hlm)
                  injection ea with ea
                  subst ea
                  have hst := mem_take_succ9 x (L j) m (by rw [HT.out.2]; exact hlm)
                  rw [hbb] at hst
                  obtain ⟨y, hy⟩ : ∃ y, (L j)[m]'(by rw [HT.out.2]; exact hlm) = y := ⟨_, rfl⟩
                  rw [hy] at hst k3
                  rw [add_zero9] at k3
                  have HST := Lib.hid hst
                  clear hst hbb hy
                  cases bb with
                  | true =>
                    go_wp2_with fail
                    go_roundw
                    case rel => exact ⟨m + 1, by omega, by go_num, by rw [HST.out]; simp, by first | rfl | trivial⟩
                    case measure => simp [intOf]; omega
                  | false =>
                    go_wp2_with fail
                    go_roundw
                    case rel => exact ⟨m + 1, by omega, by go_num, by rw [HST.out]; simp, by first | rfl | trivial⟩
                    case measure => simp [intOf]; omega
                · obtain rfl : m = M := by omega
                  have e1 : bb = true := by rw [← hbb, List.take_of_length_le (by rw [HT.out.2]; omega)]; exact decide_eq_true HXX.out.1
                  subst e1
                  obtain ⟨_, ad2, ea, k2, k3⟩ := HT.out.1.2.2 0 (by rw [HT.out.2]; exact hne)
                  injection ea with ea
                  subst ea
                  rw [add_zero9] at k3
                  clear hbb hlm
                  by_cases hk0 : keep = 0
                  · subst hk0
                    rw [HXX.out.2 (by rw [HT.out.2]; exact hne) rfl] at k3
                    go_wp2_with fail
                    go_roundw
                    case rel =>
                      first
                      | exact ⟨j + 1, by omega, by go_num, HX10.out⟩
                      | (repeat apply Exists.intro
                         refine ⟨?_, rfl⟩
                         exact ⟨j + 1, by omega, by go_num, HX10.out⟩)
                    case measure => simp [intOf]; omega
                  · have t0 : ((keep : Int) == 0) = false := by simpa using hk0
                    go_wp2_with fail
                    go_roundw
                    case rel =>
                      first
                      | exact ⟨j + 1, by omega, by go_num, HX10.out⟩
                      | (repeat apply Exists.intro
                         refine ⟨?_, rfl⟩
                         exact ⟨j + 1, by omega, by go_num, HX10.out⟩)
                    case measure => simp [intOf]; omega
            · obtain rfl : j = 12 := by omega
              go_wp2_with fail
              go_ret
              exact ⟨rfl, HJ.out.1.bel⟩
end Go.Proofs.Ytndmndchbfmppaa
