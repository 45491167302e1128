/-
  Texts of the same seat, one behind the other (merged; each says at its head what it is).
-/
import Derived.Test.YtdbifbgjbfnfmaaGreatDoorM01
import Derived.Test.YtdbifbgjbfnfmaaGreatDoorM03
/-
  Layer 4 (label): quoting: what the document's own Quote and Quoted return; all that was in memory stays.
-/
namespace Go.Proofs.YtdbifbgjbfnfmaaGreatDoor
open Go.RowKit Go.Deep
attribute [local go_sem] str_size str_append str_toList str_get str_extract
set_option linter.unusedVariables false
set_option linter.unusedSimpArgs false
end Go.Proofs.YtdbifbgjbfnfmaaGreatDoor
/-
  Layer 4 (label): values: what the document's own Value returns; all that was in memory stays.
-/
namespace Go.Proofs.YtdbifbgjbfnfmaaGreatDoor
open Go.RowKit Go.Deep
attribute [local go_sem] str_size str_append str_toList str_get str_extract
set_option linter.unusedVariables false
set_option linter.unusedSimpArgs false
theorem refValue_c (s : List UInt8) (w : World) (hs : s.length ≤ 1099511627776) : Calls Tryz.prog 47 #[.string (str s)] w fun e w' => e = .returned (.bool (valueL s)) ∧ w = w' := by
  by_cases h32 : 32 < (s.length : Int)
  · rw [valueL_long (by omega)]
    go_enter Tryz.func47, Tryz.ntmps47
    go_wp2
    go_ret
    exact ⟨rfl, rfl⟩
  rw [valueL_of (by omega)]
  obtain ⟨R, hR⟩ : ∃ R, utfL s.length s = R := ⟨_, rfl⟩
  rw [hR]
  have HR := Lib.hid hR
  clear hR
  go_enter Tryz.func47, Tryz.ntmps47
  go_wp2_with fail
  go_loopw [0] (fun a wr => ∃ t : List UInt8, a = .string (str t) ∧ t.length ≤ s.length ∧ Hid (utfL t.length t = R) ∧ w = wr) (fun a _ => match a with | .string b => b.size | _ => 0)
  case atStart => exact ⟨s, rfl, Nat.le_refl _, HR.out, rfl⟩
  case round =>
    obtain ⟨t, rfl, hl, HI, rfl⟩ := hrel
    by_cases h0 : t.length = 0
    · obtain rfl : t = [] := List.eq_nil_of_length_eq_zero h0
      have e := HI.out
      rw [utf_nil] at e
      subst e
      go_wp2_with fail
      go_ret
      exact ⟨rfl, rfl⟩
    · have h00 : (0 : Int) < (t.length : Int) := by omega
      have hne : t ≠ [] := fun e => h0 (by rw [e]; rfl)
      have hw := fun W => wide_c t W (by omega) (by omega)
      have hle := wide_le hne
      have hbad := fun h => utf_bad hne h
      have hstep := fun h => utf_step hne h
      obtain ⟨k, hk⟩ : ∃ k, wideL t = k := ⟨_, rfl⟩
      rw [hk] at hw hle hbad hstep
      by_cases hz : k = 0
      · subst hz
        have e := hbad rfl
        rw [HI.out] at e
        subst e
        clear hbad hstep hk hne
        go_wp2_with (go_at_call 72; refine (hw _).mono ?_; rintro e w1 ⟨rfl, rfl⟩)
        go_ret
        exact ⟨rfl, rfl⟩
      · have e := hstep hz
        rw [HI.out] at e
        have HE := Lib.hid e
        have t1 : ((k : Int) == 0) = false := by rw [beq_eq_false_iff_ne]; omega
        have htk : (t.drop k).take (t.length - k) = t.drop k := List.take_of_length_le (by rw [List.length_drop]; omega)
        have hkp : 0 < k := by omega
        clear hbad hstep hk hne e hz h0
        go_wp2_with (go_at_call 72; refine (hw _).mono ?_; rintro e w1 ⟨rfl, rfl⟩)
        go_roundw
        case rel => exact ⟨t.drop k, rfl, by rw [List.length_drop]; omega, HE.out.symm, by first | rfl | trivial⟩
        case measure => simp only [str_size, List.length_drop]; omega
end Go.Proofs.YtdbifbgjbfnfmaaGreatDoor
/-
  Layer 4 (label): what the document's own Check and Print return; all that was in memory stays.
-/
namespace Go.Proofs.YtdbifbgjbfnfmaaGreatDoor
open Go.RowKit Go.Deep
attribute [local go_sem] str_size str_append str_toList str_get str_extract
set_option linter.unusedVariables false
set_option linter.unusedSimpArgs false
set_option maxHeartbeats 2000000 in
theorem refCheck_c (A : Option Addr) (len cap : Nat) (l : List Lab) (w : World) (hl : len ≤ 140737488355328) (hA : LAt w A len l) (hz : ∀ x ∈ l, x.1.length ≤ 4096 ∧ x.2.length ≤ 4096) :
    Calls Tryz.prog 29 #[.slice A len cap] w fun e w' => e = .returned (.int .i64 (eOf (okL l))) ∧ Below w.heap.size w w' := by
  have hle := hA.1
  subst hle
  by_cases h8 : 8 < (l.length : Int)
  · rw [okL_long (by omega)]
    go_enter Tryz.func29, Tryz.ntmps29
    go_wp2
    go_ret
    exact ⟨rfl, Below.refl _ _⟩
  rw [okL_of (by omega)]
  obtain ⟨R, hR⟩ : ∃ R, okFrom [] l = R := ⟨_, rfl⟩
  rw [hR]
  have HR := Lib.hid hR
  clear hR
  go_enter Tryz.func29, Tryz.ntmps29
  go_wp2_with fail
  go_loopw [3] (fun c wr => ∃ i : Nat, i ≤ l.length ∧ c = .int .i64 i ∧ Hid (okFrom (prevN l i) (l.drop i) = R) ∧ Below w.heap.size w wr) (fun c _ => l.length - (intOf c).toNat)
  case atStart => exact ⟨0, Nat.zero_le _, rfl, by show _ = _; rw [prevN_zero]; exact HR.out, Below.refl _ _⟩
  case round =>
    obtain ⟨i, hi, rfl, HI, hb⟩ := hrel
    by_cases hlt : i < l.length
    · obtain ⟨-, ad, rfl, h2, h3, h4⟩ := (hA.below hb).2 i hlt
      have hst := okFrom_at (a := prevN l i) hlt
      rw [HI.out] at hst
      have hps := prevN_succ hlt
      obtain ⟨z1, z2⟩ := hz _ (List.getElem_mem hlt)
      obtain ⟨x, hx⟩ : ∃ x, l[i]'hlt = x := ⟨_, rfl⟩
      rw [hx] at hst h3 h4 z1 z2 hps
      obtain ⟨n, v⟩ := x
      simp only at hst h3 h4 z1 z2 hps
      have HST := Lib.hid hst
      have HPS := Lib.hid hps
      have c1 := fun W => refName_c n W (by omega)
      have c2 := fun W => refValue_c v W (by omega)
      clear hst hps hx
      cases hN : nameL n with
      | false =>
        have e := HST.out
        rw [hN, Bool.false_and] at e
        subst e
        rw [hN] at c1
        clear hN c2
        go_wp2_with fail
        go_quiet (first | (go_at_call 46; exact Calls.quiet_of_same ((c1 _).mono fun _ _ ⟨ha, hb⟩ => ⟨ha, hb.symm⟩)))
        go_wp2_with fail
        go_ret
        exact ⟨rfl, below_drewN hb _⟩
      | true =>
      rw [hN] at c1
      cases hV : valueL v with
      | false =>
        have e := HST.out
        rw [hN, hV, Bool.true_and, Bool.false_and] at e
        subst e
        rw [hV] at c2
        clear hN hV
        go_wp2_with fail
        go_quiet (first | (go_at_call 46; exact Calls.quiet_of_same ((c1 _).mono fun _ _ ⟨ha, hb⟩ => ⟨ha, hb.symm⟩)) | (go_at_call 47; exact Calls.quiet_of_same ((c2 _).mono fun _ _ ⟨ha, hb⟩ => ⟨ha, hb.symm⟩)))
        go_wp2_with fail
        go_ret
        exact ⟨rfl, below_drewN hb _⟩
      | true =>
      rw [hV] at c2
      have hne := nameL_ne hN
      by_cases hv0 : v = []
      · have e := HST.out
        rw [hN, hV, Bool.true_and, Bool.true_and, hv0] at e
        simp only [beq_self_eq_true, Bool.not_true, Bool.false_and] at e
        subst e
        subst hv0
        clear hN hV
        go_wp2_with fail
        go_quiet (first | (go_at_call 46; exact Calls.quiet_of_same ((c1 _).mono fun _ _ ⟨ha, hb⟩ => ⟨ha, hb.symm⟩)) | (go_at_call 47; exact Calls.quiet_of_same ((c2 _).mono fun _ _ ⟨ha, hb⟩ => ⟨ha, hb.symm⟩)))
        go_wp2_with fail
        go_ret
        exact ⟨rfl, below_drewN hb _⟩
      have tv : (v == []) = false := by rw [beq_eq_false_iff_ne]; exact hv0
      have tve : v.isEmpty = false := by cases v with | nil => exact absurd rfl hv0 | cons c r => rfl
      by_cases hi0 : i = 0
      · subst hi0
        have ea : ad.add 0 = ad := by rcases ad with ⟨b, o, p⟩; cases p <;> rfl
        have eb : ad.add (0 * 2) = ad := by rw [Nat.zero_mul]; exact ea
        rw [eb] at h2 h3 h4
        have e := HST.out
        rw [prevN_zero, less_nil hne, hN, hV, Bool.true_and, Bool.true_and, tv, Bool.true_and, Bool.not_false, Bool.true_and] at e
        have HE := Lib.hid e
        clear hN hV e
        go_wp2_with fail
        go_quiet (first | (go_at_call 46; exact Calls.quiet_of_same ((c1 _).mono fun _ _ ⟨ha, hb⟩ => ⟨ha, hb.symm⟩)) | (go_at_call 47; exact Calls.quiet_of_same ((c2 _).mono fun _ _ ⟨ha, hb⟩ => ⟨ha, hb.symm⟩)))
        go_wp2_with fail
        go_roundw
        case rel => exact ⟨1, by omega, by go_num, by rw [HPS.out]; exact HE.out.symm, below_drewN hb _⟩
        case measure => simp [intOf]; omega
      · have hi1 : i - 1 < l.length := by omega
        obtain ⟨j, rfl⟩ : ∃ j, i = j + 1 := ⟨i - 1, by omega⟩
        have hpj := prevN_succ (l := l) (i := j) (by omega)
        obtain ⟨-, ad', hAd, h2', h3', -⟩ := (hA.below hb).2 j (by omega)
        injection hAd with hAd
        subst hAd
        obtain ⟨z3, z4⟩ := hz _ (List.getElem_mem (show j < l.length by omega))
        obtain ⟨y, hy⟩ : ∃ y, l[j]'(by omega) = y := ⟨_, rfl⟩
        rw [hy] at hpj h3' z3 z4
        obtain ⟨p, q⟩ := y
        simp only at hpj h3' z3 z4
        have HPJ := Lib.hid hpj
        have hord := less_trans_like n p
        have HORD := Lib.hid hord
        have ej : ((j + 1 : Nat) : Int) - 1 = (j : Int) := by omega
        have tj : (0 : Int) < ((j + 1 : Nat) : Int) := by omega
        have tj2 : (0 : Int) < (j : Int) + 1 := by omega
        clear hord hpj hy
        cases hL : Op.bytesLess p n with
        | false =>
          have e := HST.out
          rw [HPJ.out, hN, hV, hL, Bool.true_and, Bool.true_and, tv, Bool.false_and, Bool.and_false] at e
          subst e
          have tl : (Op.bytesLess n p || n == p) = true := by have := HORD.out; rw [hL] at this; revert this; generalize (Op.bytesLess n p || n == p) = q; cases q <;> simp
          clear hN hV hL
          go_wp2_with fail
          go_quiet (first | (go_at_call 46; exact Calls.quiet_of_same ((c1 _).mono fun _ _ ⟨ha, hb⟩ => ⟨ha, hb.symm⟩)) | (go_at_call 47; exact Calls.quiet_of_same ((c2 _).mono fun _ _ ⟨ha, hb⟩ => ⟨ha, hb.symm⟩)))
          go_wp2_with fail
          go_ret
          exact ⟨rfl, below_drewN hb _⟩
        | true =>
          have e := HST.out
          rw [HPJ.out, hN, hV, hL, Bool.true_and, Bool.true_and, tv, Bool.true_and, Bool.not_false, Bool.true_and] at e
          have HE := Lib.hid e
          have tl : (Op.bytesLess n p || n == p) = false := by have := HORD.out; rw [hL] at this; revert this; generalize (Op.bytesLess n p || n == p) = q; cases q <;> simp
          clear hN hV hL e
          go_wp2_with fail
          go_quiet (first | (go_at_call 46; exact Calls.quiet_of_same ((c1 _).mono fun _ _ ⟨ha, hb⟩ => ⟨ha, hb.symm⟩)) | (go_at_call 47; exact Calls.quiet_of_same ((c2 _).mono fun _ _ ⟨ha, hb⟩ => ⟨ha, hb.symm⟩)))
          go_wp2_with fail
          go_roundw
          case rel => exact ⟨j + 1 + 1, by omega, by go_num, by rw [HPS.out]; exact HE.out.symm, below_drewN hb _⟩
          case measure => simp [intOf]; omega
    · obtain rfl : i = l.length := by omega
      have e := HI.out
      rw [okFrom_end] at e
      subst e
      go_wp2_with fail
      go_ret
      exact ⟨rfl, hb⟩
end Go.Proofs.YtdbifbgjbfnfmaaGreatDoor
