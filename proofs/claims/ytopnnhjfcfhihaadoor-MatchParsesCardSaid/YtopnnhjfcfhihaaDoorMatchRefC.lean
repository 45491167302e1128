/-
  Layer 5 (match): what the document's Check returns; all that was in memory stays.
-/
import Derived.Test.YtopnnhjfcfhihaaDoorMatchForm
import Derived.Test.YtopnnhjfcfhihaaDoorLabelD
namespace Go.Proofs.YtopnnhjfcfhihaaDoor
open Go.RowKit Go.Deep
attribute [local go_sem] str_size str_append str_toList str_get str_extract
set_option linter.unusedVariables false
set_option linter.unusedSimpArgs false
set_option maxRecDepth 100000 in
set_option maxHeartbeats 1000000 in
theorem mrefCheck_c (m : Mat) (A : Option Addr) (cap : Nat) (w : World) (hm : smallM m) (hS : StrsAt w A m.2.2.2.length m.2.2.2) :
    Calls Tryd.prog 9 #[.agg #[.int .i64 m.1, .string (str m.2.1), .string (str m.2.2.1), .slice A m.2.2.2.length cap]] w fun e w' => e = .returned (.int .i64 (eM (chkL m))) ∧ Below w.heap.size w w' := by
  have e0 : eM true = 0 := rfl
  have e1 : eM false = 50 := rfl
  obtain ⟨z1, z2, z3, z4⟩ := hm
  obtain ⟨k, n, v, s⟩ := m
  unfold chkL
  simp only at hS z1 z2 z3 z4 ⊢
  have cn := fun W => refName_c n W (by omega)
  have cv := fun W => refValue_c v W (by omega)
  have hba : Below w.heap.size w (w.alloc (.cells #[.int .i64 k, .string (str n), .string (str v), .slice A s.length cap] 30)) := (Below.refl _ _).alloc (Nat.le_refl _) _
  have HS := Lib.hid (hS.below hba)
  have HB := Lib.hid hba
  clear hba hS
  cases hN : nameL n with
  | false =>
    rw [hN] at cn
    rw [Bool.false_and, e1]
    clear hN
    go_enter Tryd.func9, Tryd.ntmps9
    go_wp2_with (go_at_call 22; refine (cn _).mono ?_; rintro e w1 ⟨rfl, rfl⟩; dsimp only)
    go_ret
    exact ⟨rfl, HB.out⟩
  | true =>
  rw [hN] at cn
  rw [Bool.true_and]
  clear hN
  by_cases h3 : k = 3
  · subst h3
    rw [if_pos rfl]
    by_cases hv0 : v = []
    · subst hv0
      rw [show (([] : List UInt8) == []) = true from rfl, Bool.true_and]
      by_cases hl0 : s.length = 0
      · have e : setL s = false := by unfold setL; simp [hl0]
        rw [e, e1]
        have t1 : decide ((s.length : Int) < 1) = true := by simp [hl0]
        clear e hl0
        go_enter Tryd.func9, Tryd.ntmps9
        go_wp2_with (go_at_call 22; refine (cn _).mono ?_; rintro e w1 ⟨rfl, rfl⟩; dsimp only)
        go_ret
        exact ⟨rfl, HB.out⟩
      by_cases h8 : 8 < (s.length : Int)
      · have e : setL s = false := by unfold setL; rw [show decide (s.length ≤ 8) = false by simp; omega]; simp
        rw [e, e1]
        have t1 : decide ((s.length : Int) < 1) = false := by simp; omega
        have t2 : decide (8 < (s.length : Int)) = true := by simpa using h8
        clear e hl0 h8
        go_enter Tryd.func9, Tryd.ntmps9
        go_wp2_with (go_at_call 22; refine (cn _).mono ?_; rintro e w1 ⟨rfl, rfl⟩; dsimp only)
        go_ret
        exact ⟨rfl, HB.out⟩
      have e : setL s = setFrom none s := by unfold setL; rw [show decide (1 ≤ s.length) = true by simp; omega, show decide (s.length ≤ 8) = true by simp; omega]; simp
      rw [e]
      obtain ⟨R, hR⟩ : ∃ R, setFrom none s = R := ⟨_, rfl⟩
      rw [hR]
      have HR := Lib.hid hR
      have t1 : decide ((s.length : Int) < 1) = false := by simp; omega
      have t2 : decide (8 < (s.length : Int)) = false := by simp; omega
      have d := blk_new w (.cells #[.int .i64 3, .string (str n), .string (str []), .slice A s.length cap] 30)
      have d3 := blk_cell d 3
      simp only [List.getElem?_toArray, List.getElem?_cons_zero, List.getElem?_cons_succ] at d3
      clear e hl0 h8 hR cv d
      go_enter Tryd.func9, Tryd.ntmps9
      go_wp2_with (go_at_call 22; refine (cn _).mono ?_; rintro e w1 ⟨rfl, rfl⟩; dsimp only)
      obtain ⟨wa, hwa⟩ : ∃ wa, wa = w.alloc (.cells #[.int .i64 3, .string (str n), .string (str []), .slice A s.length cap] 30) := ⟨_, rfl⟩
      have HS' : Hid (StrsAt wa A s.length s ∧ Below w.heap.size w wa ∧ wa.cell? ⟨w.heap.size, 3, none⟩ = some (.slice A s.length cap)) := by rw [hwa]; exact ⟨HS.out, HB.out, d3⟩
      rw [← hwa]
      clear hwa HS HB d3
      go_loopw [3] (fun c wr => ∃ i : Nat, i ≤ s.length ∧ c = .int .i64 i ∧ Hid (setFrom (prevO s i) (s.drop i) = R) ∧ Below wa.heap.size wa wr) (fun c _ => s.length - (intOf c).toNat)
      case atStart => exact ⟨0, Nat.zero_le _, rfl, by show _ = _; rw [prevO_zero]; exact HR.out, Below.refl _ _⟩
      case round =>
        obtain ⟨i, hi, rfl, HI, hb⟩ := hrel
        have hbw := below2 HS'.out.2.1 hb HS'.out.2.1.size
        have hc3 := (hb.cell (p := ⟨w.heap.size, 3, none⟩) (World.block_lt_of_cell? _ _ HS'.out.2.2)).trans HS'.out.2.2
        have hA := HS'.out.1.below hb
        by_cases hlt : i < s.length
        · obtain ⟨-, ad, rfl, h2, h3⟩ := hA.2 i hlt
          have hst := setFrom_at (o := prevO s i) hlt
          rw [HI.out] at hst
          have z1 := z4 _ (List.getElem_mem hlt)
          have hnx := prevO_succ hlt
          obtain ⟨x, hx⟩ : ∃ v, s[i]'hlt = v := ⟨_, rfl⟩
          rw [hx] at hst h3 z1 hnx
          have HNX := Lib.hid hnx
          have HST := Lib.hid hst
          have c1 := fun W => refValue_c x W (by omega)
          clear hst hx hnx
          cases hV : valueL x with
          | false =>
            have e := HST.out
            rw [hV, Bool.false_and] at e
            subst e
            rw [hV] at c1
            clear hV
            have hx0 : i = 0 ∨ 0 < i := by omega
            by_cases hi0 : i = 0
            · subst hi0
              have ea : ad.add 0 = ad := by rcases ad with ⟨b, o, p⟩; cases p <;> rfl
              rw [ea] at h2 h3
              go_wp2_with fail
              go_quiet (first | (go_at_call 23; exact Calls.quiet_of_same ((c1 _).mono fun _ _ ⟨ha, hb⟩ => ⟨ha, hb.symm⟩)))
              go_wp2_with fail
              go_ret
              exact ⟨rfl, below_drewN hbw _⟩
            · have ti : (0 : Int) < (i : Int) := by omega
              go_wp2_with fail
              go_quiet (first | (go_at_call 23; exact Calls.quiet_of_same ((c1 _).mono fun _ _ ⟨ha, hb⟩ => ⟨ha, hb.symm⟩)))
              go_wp2_with fail
              go_ret
              exact ⟨rfl, below_drewN hbw _⟩
          | true =>
          rw [hV] at c1
          by_cases hi0 : i = 0
          · subst hi0
            have e := HST.out
            rw [prevO_zero, hV, Bool.true_and] at e
            have e2 : R = setFrom (some x) (s.drop (0 + 1)) := e
            have HE : Hid (setFrom (prevO s (0 + 1)) (s.drop (0 + 1)) = R) := by show _ = _; rw [HNX.out, e2]
            clear hV e e2
            have ea : ad.add 0 = ad := by rcases ad with ⟨b, o, p⟩; cases p <;> rfl
            rw [ea] at h2 h3
            go_wp2_with fail
            go_quiet (first | (go_at_call 23; exact Calls.quiet_of_same ((c1 _).mono fun _ _ ⟨ha, hb⟩ => ⟨ha, hb.symm⟩)))
            go_wp2_with fail
            go_roundw
            case rel => exact ⟨1, by omega, by go_num, HE.out, below_drewN hb _⟩
            case measure => simp [intOf]; omega
          · obtain ⟨j, rfl⟩ : ∃ j, i = j + 1 := ⟨i - 1, by omega⟩
            have ea : ad.add (j + 1) = ⟨ad.block, ad.off + (j + 1), none⟩ := by unfold Addr.add; rw [if_neg (by omega)]
            rw [ea] at h2 h3
            clear ea
            have hpj := prevO_succ (s := s) (i := j) (by omega)
            obtain ⟨-, ad', hAd, h2', h3'⟩ := hA.2 j (by omega)
            injection hAd with hAd
            subst hAd
            obtain ⟨p, hp⟩ : ∃ p, s[j]'(by omega) = p := ⟨_, rfl⟩
            rw [hp] at hpj h3'
            have HPJ := Lib.hid hpj
            have hord := less_trans_like x p
            have HORD := Lib.hid hord
            have ej : ((j + 1 : Nat) : Int) - 1 = (j : Int) := by omega
            have tj : (0 : Int) < ((j + 1 : Nat) : Int) := by omega
            have tj2 : (0 : Int) < (j : Int) + 1 := by omega
            clear hord hpj hp
            cases hL : Op.bytesLess p x with
            | false =>
              have e := HST.out
              rw [HPJ.out, hV, Bool.true_and] at e
              have e2 : R = (Op.bytesLess p x && setFrom (some x) (s.drop (j + 1 + 1))) := e
              rw [hL, Bool.false_and] at e2
              subst e2
              have tl : (Op.bytesLess x p || x == p) = true := by have := HORD.out; rw [hL] at this; revert this; generalize (Op.bytesLess x p || x == p) = q; cases q <;> simp
              clear hV hL e
              go_wp2_with fail
              go_quiet (first | (go_at_call 23; exact Calls.quiet_of_same ((c1 _).mono fun _ _ ⟨ha, hb⟩ => ⟨ha, hb.symm⟩)))
              go_wp2_with fail
              go_ret
              exact ⟨rfl, below_drewN hbw _⟩
            | true =>
              have e := HST.out
              rw [HPJ.out, hV, Bool.true_and] at e
              have e2 : R = (Op.bytesLess p x && setFrom (some x) (s.drop (j + 1 + 1))) := e
              rw [hL, Bool.true_and] at e2
              have HE : Hid (setFrom (prevO s (j + 1 + 1)) (s.drop (j + 1 + 1)) = R) := by show _ = _; rw [HNX.out, e2]
              have tl : (Op.bytesLess x p || x == p) = false := by have := HORD.out; rw [hL] at this; revert this; generalize (Op.bytesLess x p || x == p) = q; cases q <;> simp
              clear hV hL e e2
              go_wp2_with fail
              go_quiet (first | (go_at_call 23; exact Calls.quiet_of_same ((c1 _).mono fun _ _ ⟨ha, hb⟩ => ⟨ha, hb.symm⟩)))
              go_wp2_with fail
              go_roundw
              case rel => exact ⟨j + 1 + 1, by omega, by go_num, HE.out, below_drewN hb _⟩
              case measure => simp [intOf]; omega
        · obtain rfl : i = s.length := by omega
          have e := HI.out
          rw [setFrom_end] at e
          subst e
          go_wp2_with fail
          go_ret
          exact ⟨rfl, hbw⟩
    · have tv : (v == []) = false := by rw [beq_eq_false_iff_ne]; exact hv0
      have tve : v.isEmpty = false := by cases v with | nil => exact absurd rfl hv0 | cons c r => rfl
      rw [tv, Bool.false_and, e1]
      clear hv0
      go_enter Tryd.func9, Tryd.ntmps9
      go_wp2_with (go_at_call 22; refine (cn _).mono ?_; rintro e w1 ⟨rfl, rfl⟩; dsimp only)
      go_ret
      exact ⟨rfl, HB.out⟩
  rw [if_neg h3]
  have t3 : (k == 3) = false := by simpa using h3
  have t3' : (k != 3) = true := by simp [h3]
  by_cases hk : 0 ≤ k ∧ k ≤ 3
  · rw [if_pos hk]
    have k0 : decide (0 ≤ k) = true := by simp; omega
    have k3 : decide (k < 3) = true := by simp; omega
    cases hV : valueL v with
    | false =>
      rw [hV] at cv
      rw [Bool.false_and, e1]
      clear hV h3 hk
      go_enter Tryd.func9, Tryd.ntmps9
      go_wp2_with (first | (go_at_call 22; refine (cn _).mono ?_; rintro e w1 ⟨rfl, rfl⟩; dsimp only) | (go_at_call 23; refine (cv _).mono ?_; rintro e w1 ⟨rfl, rfl⟩; dsimp only))
      go_ret
      exact ⟨rfl, HB.out⟩
    | true =>
      rw [hV] at cv
      rw [Bool.true_and]
      by_cases hl0 : s.length = 0
      · rw [decide_eq_true hl0, e0]
        have tl : ((s.length : Int) == 0) = true := by simp [hl0]
        clear hV h3 hk hl0
        go_enter Tryd.func9, Tryd.ntmps9
        go_wp2_with (first | (go_at_call 22; refine (cn _).mono ?_; rintro e w1 ⟨rfl, rfl⟩; dsimp only) | (go_at_call 23; refine (cv _).mono ?_; rintro e w1 ⟨rfl, rfl⟩; dsimp only))
        go_ret
        exact ⟨rfl, HB.out⟩
      · rw [decide_eq_false hl0, e1]
        have tl : ((s.length : Int) == 0) = false := by rw [beq_eq_false_iff_ne]; omega
        clear hV h3 hk hl0
        go_enter Tryd.func9, Tryd.ntmps9
        go_wp2_with (first | (go_at_call 22; refine (cn _).mono ?_; rintro e w1 ⟨rfl, rfl⟩; dsimp only) | (go_at_call 23; refine (cv _).mono ?_; rintro e w1 ⟨rfl, rfl⟩; dsimp only))
        go_ret
        exact ⟨rfl, HB.out⟩
  · rw [if_neg hk, e1]
    by_cases hk0 : 0 ≤ k
    · have k0 : decide (0 ≤ k) = true := by simp; omega
      have k3 : decide (k < 3) = false := by simp; omega
      clear h3 hk hk0
      go_enter Tryd.func9, Tryd.ntmps9
      go_wp2_with (go_at_call 22; refine (cn _).mono ?_; rintro e w1 ⟨rfl, rfl⟩; dsimp only)
      go_ret
      exact ⟨rfl, HB.out⟩
    · have k0 : decide (0 ≤ k) = false := by simp; omega
      clear h3 hk hk0
      go_enter Tryd.func9, Tryd.ntmps9
      go_wp2_with (go_at_call 22; refine (cn _).mono ?_; rintro e w1 ⟨rfl, rfl⟩; dsimp only)
      go_ret
      exact ⟨rfl, HB.out⟩
end Go.Proofs.YtopnnhjfcfhihaaDoor
