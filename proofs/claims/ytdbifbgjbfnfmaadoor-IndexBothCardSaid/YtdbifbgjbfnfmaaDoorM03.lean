/-
  Texts of the same seat, one behind the other (merged; each says at its head what it is).
-/
import Derived.Test.YtdbifbgjbfnfmaaDoorM02
import Derived.Test.YtdbifbgjbfnfmaaDoorM01
/-
  Layer 4 (label): what the document's own Check and Print return; all that was in memory stays.
-/
namespace Go.Proofs.YtdbifbgjbfnfmaaDoor
open Go.RowKit Go.Deep
attribute [local go_sem] str_size str_append str_toList str_get str_extract
set_option linter.unusedVariables false
set_option linter.unusedSimpArgs false
set_option maxHeartbeats 2000000 in
theorem refCheck_c (A : Option Addr) (len cap : Nat) (l : List Lab) (w : World) (hl : len ≤ 140737488355328) (hA : LAt w A len l) (hz : ∀ x ∈ l, x.1.length ≤ 4096 ∧ x.2.length ≤ 4096) :
    Calls Tryd.prog 55 #[.slice A len cap] w fun e w' => e = .returned (.int .i64 (eOf (okL l))) ∧ Below w.heap.size w w' := by
  have hle := hA.1
  subst hle
  by_cases h8 : 8 < (l.length : Int)
  · rw [okL_long (by omega)]
    go_enter Tryd.func55, Tryd.ntmps55
    go_wp2
    go_ret
    exact ⟨rfl, Below.refl _ _⟩
  rw [okL_of (by omega)]
  obtain ⟨R, hR⟩ : ∃ R, okFrom [] l = R := ⟨_, rfl⟩
  rw [hR]
  have HR := Lib.hid hR
  clear hR
  go_enter Tryd.func55, Tryd.ntmps55
  go_wp2_with fail
  go_loopw [3] (fun c wr => ∃ i : Nat, i ≤ l.length ∧ c = .int .i64 i ∧ Hid (okFrom (prevN l i) (l.drop i) = R) ∧ Below w.heap.size w wr) (fun c _ => l.length - (intOf c).toNat)
  case atStart => exact ⟨0, Nat.zero_le _, rfl, by show _ = _; rw [prevN_zero]; exact HR.out, Below.refl _ _⟩
  case round =>
    obtain ⟨i, hi, rfl, HI, hb⟩ := hrel
    by_cases hlt : i < l.length
    · obtain ⟨-, ad, rfl, h2, h3, h4⟩ := (hA.below hb).2 i hlt
      have hst := okFrom_at (a := prevN l i) hlt
      rw [HI.out] at hst
      have hps := prevN_succ hlt
      obtain ⟨z1, z2⟩ := hz _ (List.getElem_mem hlt)
      obtain ⟨x, hx⟩ : ∃ x, l[i]'hlt = x := ⟨_, rfl⟩
      rw [hx] at hst h3 h4 z1 z2 hps
      obtain ⟨n, v⟩ := x
      simp only at hst h3 h4 z1 z2 hps
      have HST := Lib.hid hst
      have HPS := Lib.hid hps
      have c1 := fun W => refName_c n W (by omega)
      have c2 := fun W => refValue_c v W (by omega)
      clear hst hps hx
      cases hN : nameL n with
      | false =>
        have e := HST.out
        rw [hN, Bool.false_and] at e
        subst e
        rw [hN] at c1
        clear hN c2
        go_wp2_with fail
        go_quiet (first | (go_at_call 66; exact Calls.quiet_of_same ((c1 _).mono fun _ _ ⟨ha, hb⟩ => ⟨ha, hb.symm⟩)))
        go_wp2_with fail
        go_ret
        exact ⟨rfl, below_drewN hb _⟩
      | true =>
      rw [hN] at c1
      cases hV : valueL v with
      | false =>
        have e := HST.out
        rw [hN, hV, Bool.true_and, Bool.false_and] at e
        subst e
        rw [hV] at c2
        clear hN hV
        go_wp2_with fail
        go_quiet (first | (go_at_call 66; exact Calls.quiet_of_same ((c1 _).mono fun _ _ ⟨ha, hb⟩ => ⟨ha, hb.symm⟩)) | (go_at_call 67; exact Calls.quiet_of_same ((c2 _).mono fun _ _ ⟨ha, hb⟩ => ⟨ha, hb.symm⟩)))
        go_wp2_with fail
        go_ret
        exact ⟨rfl, below_drewN hb _⟩
      | true =>
      rw [hV] at c2
      have hne := nameL_ne hN
      by_cases hv0 : v = []
      · have e := HST.out
        rw [hN, hV, Bool.true_and, Bool.true_and, hv0] at e
        simp only [beq_self_eq_true, Bool.not_true, Bool.false_and] at e
        subst e
        subst hv0
        clear hN hV
        go_wp2_with fail
        go_quiet (first | (go_at_call 66; exact Calls.quiet_of_same ((c1 _).mono fun _ _ ⟨ha, hb⟩ => ⟨ha, hb.symm⟩)) | (go_at_call 67; exact Calls.quiet_of_same ((c2 _).mono fun _ _ ⟨ha, hb⟩ => ⟨ha, hb.symm⟩)))
        go_wp2_with fail
        go_ret
        exact ⟨rfl, below_drewN hb _⟩
      have tv : (v == []) = false := by rw [beq_eq_false_iff_ne]; exact hv0
      have tve : v.isEmpty = false := by cases v with | nil => exact absurd rfl hv0 | cons c r => rfl
      by_cases hi0 : i = 0
      · subst hi0
        have ea : ad.add 0 = ad := by rcases ad with ⟨b, o, p⟩; cases p <;> rfl
        have eb : ad.add (0 * 2) = ad := by rw [Nat.zero_mul]; exact ea
        rw [eb] at h2 h3 h4
        have e := HST.out
        rw [prevN_zero, less_nil hne, hN, hV, Bool.true_and, Bool.true_and, tv, Bool.true_and, Bool.not_false, Bool.true_and] at e
        have HE := Lib.hid e
        clear hN hV e
        go_wp2_with fail
        go_quiet (first | (go_at_call 66; exact Calls.quiet_of_same ((c1 _).mono fun _ _ ⟨ha, hb⟩ => ⟨ha, hb.symm⟩)) | (go_at_call 67; exact Calls.quiet_of_same ((c2 _).mono fun _ _ ⟨ha, hb⟩ => ⟨ha, hb.symm⟩)))
        go_wp2_with fail
        go_roundw
        case rel => exact ⟨1, by omega, by go_num, by rw [HPS.out]; exact HE.out.symm, below_drewN hb _⟩
        case measure => simp [intOf]; omega
      · have hi1 : i - 1 < l.length := by omega
        obtain ⟨j, rfl⟩ : ∃ j, i = j + 1 := ⟨i - 1, by omega⟩
        have hpj := prevN_succ (l := l) (i := j) (by omega)
        obtain ⟨-, ad', hAd, h2', h3', -⟩ := (hA.below hb).2 j (by omega)
        injection hAd with hAd
        subst hAd
        obtain ⟨z3, z4⟩ := hz _ (List.getElem_mem (show j < l.length by omega))
        obtain ⟨y, hy⟩ : ∃ y, l[j]'(by omega) = y := ⟨_, rfl⟩
        rw [hy] at hpj h3' z3 z4
        obtain ⟨p, q⟩ := y
        simp only at hpj h3' z3 z4
        have HPJ := Lib.hid hpj
        have hord := less_trans_like n p
        have HORD := Lib.hid hord
        have ej : ((j + 1 : Nat) : Int) - 1 = (j : Int) := by omega
        have tj : (0 : Int) < ((j + 1 : Nat) : Int) := by omega
        have tj2 : (0 : Int) < (j : Int) + 1 := by omega
        clear hord hpj hy
        cases hL : Op.bytesLess p n with
        | false =>
          have e := HST.out
          rw [HPJ.out, hN, hV, hL, Bool.true_and, Bool.true_and, tv, Bool.false_and, Bool.and_false] at e
          subst e
          have tl : (Op.bytesLess n p || n == p) = true := by have := HORD.out; rw [hL] at this; revert this; generalize (Op.bytesLess n p || n == p) = q; cases q <;> simp
          clear hN hV hL
          go_wp2_with fail
          go_quiet (first | (go_at_call 66; exact Calls.quiet_of_same ((c1 _).mono fun _ _ ⟨ha, hb⟩ => ⟨ha, hb.symm⟩)) | (go_at_call 67; exact Calls.quiet_of_same ((c2 _).mono fun _ _ ⟨ha, hb⟩ => ⟨ha, hb.symm⟩)))
          go_wp2_with fail
          go_ret
          exact ⟨rfl, below_drewN hb _⟩
        | true =>
          have e := HST.out
          rw [HPJ.out, hN, hV, hL, Bool.true_and, Bool.true_and, tv, Bool.true_and, Bool.not_false, Bool.true_and] at e
          have HE := Lib.hid e
          have tl : (Op.bytesLess n p || n == p) = false := by have := HORD.out; rw [hL] at this; revert this; generalize (Op.bytesLess n p || n == p) = q; cases q <;> simp
          clear hN hV hL e
          go_wp2_with fail
          go_quiet (first | (go_at_call 66; exact Calls.quiet_of_same ((c1 _).mono fun _ _ ⟨ha, hb⟩ => ⟨ha, hb.symm⟩)) | (go_at_call 67; exact Calls.quiet_of_same ((c2 _).mono fun _ _ ⟨ha, hb⟩ => ⟨ha, hb.symm⟩)))
          go_wp2_with fail
          go_roundw
          case rel => exact ⟨j + 1 + 1, by omega, by go_num, by rw [HPS.out]; exact HE.out.symm, below_drewN hb _⟩
          case measure => simp [intOf]; omega
    · obtain rfl : i = l.length := by omega
      have e := HI.out
      rw [okFrom_end] at e
      subst e
      go_wp2_with fail
      go_ret
      exact ⟨rfl, hb⟩
theorem cat4 (a b c d : List UInt8) : str a ++ str b ++ str c ++ str d = str (a ++ (b ++ (c ++ d))) := by
  rw [str_append, str_append, str_append, List.append_assoc, List.append_assoc]
theorem cat5 (a b c d e : List UInt8) : str a ++ str b ++ str c ++ str d ++ str e = str (a ++ (b ++ (c ++ (d ++ e)))) := by
  rw [cat4, str_append]; simp
set_option maxHeartbeats 1000000 in
theorem refPrint_c (A : Option Addr) (len cap : Nat) (l : List Lab) (w : World) (hl : len ≤ 140737488355328) (hA : LAt w A len l) (hz : ∀ x ∈ l, x.1.length ≤ 4096 ∧ x.2.length ≤ 4096) :
    Calls Tryd.prog 49 #[.slice A len cap] w fun e w' => e = .returned (.tuple #[.string (str (if okL l = true then printL l else [])), .int .i64 (eOf (okL l))]) ∧ Below w.heap.size w w' := by
  have c0 := fun W h1 => refCheck_c A len cap l W hl h1 hz
  have hle := hA.1
  subst hle
  cases hO : okL l with
  | false =>
    rw [hO] at c0
    go_enter Tryd.func49, Tryd.ntmps49
    go_wp2_with fail
    refine (c0 _ hA).mono ?_
    rintro e w1 ⟨rfl, hb1⟩
    go_wp2_with fail
    go_ret2
    exact ⟨rfl, hb1⟩
  | true =>
  rw [hO] at c0
  have hl8 := okL_len hO
  have hp83 := partL_ok hO
  obtain ⟨R, hR⟩ : ∃ R, printL l = R := ⟨_, rfl⟩
  rw [if_pos rfl, hR]
  have HR := Lib.hid hR
  have HP := Lib.hid hp83
  clear hR hp83 hO
  go_enter Tryd.func49, Tryd.ntmps49
  go_wp2_with fail
  refine (c0 _ hA).mono ?_
  rintro e w1 ⟨rfl, hb1⟩
  have e0 : eOf true = 0 := rfl
  rw [e0]
  clear c0 e0
  go_wp2_with fail
  obtain ⟨wo, rfl⟩ : ∃ wo : World, wo = w1 := ⟨_, rfl⟩
  go_loopw [5, 6] (fun v c wr => ∃ i : Nat, ∃ L : List UInt8, i ≤ l.length ∧ c = .int .i64 i ∧ v = .string (str L) ∧ Hid (L = 123 :: printB (l.take i)) ∧ Below w.heap.size w wr) (fun _ c _ => l.length - (intOf c).toNat)
  case atStart => exact ⟨0, [123], Nat.zero_le _, rfl, rfl, rfl, hb1⟩
  case round =>
    obtain ⟨i, L, hi, rfl, rfl, HL, hb⟩ := hrel
    have hLl : L.length ≤ 1000 := by
      rw [HL.out]
      have h1 := printB_len (l := l.take i) (fun x hx => HP.out x (List.mem_of_mem_take hx))
      rw [List.length_take] at h1
      simp; omega
    by_cases hlt : i < l.length
    · obtain ⟨-, ad, rfl, h2, h3, h4⟩ := (hA.below hb).2 i hlt
      have hst := printB_take hlt
      obtain ⟨z1, z2⟩ := hz _ (List.getElem_mem hlt)
      obtain ⟨x, hx⟩ : ∃ x, l[i]'hlt = x := ⟨_, rfl⟩
      rw [hx] at hst h3 h4 z1 z2
      obtain ⟨n, v1⟩ := x
      simp only at hst h3 h4 z1 z2
      have c1 := fun W => refQuote_c v1 W (by omega)
      have hql := quoteL_len v1
      obtain ⟨Q, hQ⟩ : ∃ Q, quoteL v1 = Q := ⟨_, rfl⟩
      rw [hQ] at c1 hst hql
      have HST := Lib.hid hst
      clear hst hx hQ
      by_cases hi0 : i = 0
      · subst hi0
        have ea : ad.add 0 = ad := by rcases ad with ⟨b, o, p⟩; cases p <;> rfl
        have eb : ad.add (0 * 2) = ad := by rw [Nat.zero_mul]; exact ea
        rw [eb] at h2 h3 h4
        have k1 : ¬ (9223372036854775807 < L.length + n.length) := by omega
        have k2 : ¬ (9223372036854775807 < L.length + n.length + 1) := by omega
        have k3 : ¬ (9223372036854775807 < L.length + n.length + 1 + Q.length) := by omega
        have HC : Hid (str L ++ str n ++ { data := #[61] } ++ str Q = str (123 :: printB (l.take (0 + 1)))) := by
          show str L ++ str n ++ str [61] ++ str Q = _
          rw [cat4, HST.out, HL.out]; rfl
        go_wp2_with fail
        go_quiet (first | (go_at_call 76; exact Calls.quiet_of_same ((c1 _).mono fun _ _ ⟨ha, hb⟩ => ⟨ha, hb.symm⟩)))
        go_wp2_with fail
        go_roundw
        case rel => exact ⟨1, _, by omega, by go_num, by first | rw [HC.out] | (rw [← HC.out]; rfl), rfl, below_drewN hb _⟩
        case measure => simp [intOf]; omega
      · have hi1 : (0 : Int) < (i : Int) := by omega
        have k0 : ¬ (9223372036854775807 < L.length + 1) := by omega
        have k1 : ¬ (9223372036854775807 < L.length + 1 + n.length) := by omega
        have k2 : ¬ (9223372036854775807 < L.length + 1 + n.length + 1) := by omega
        have k3 : ¬ (9223372036854775807 < L.length + 1 + n.length + 1 + Q.length) := by omega
        have HC : Hid (str L ++ { data := #[44] } ++ str n ++ { data := #[61] } ++ str Q = str (123 :: printB (l.take (i + 1)))) := by
          show str L ++ str [44] ++ str n ++ str [61] ++ str Q = _
          rw [cat5, HST.out, HL.out, if_neg hi0]; simp
        go_wp2_with fail
        go_quiet (first | (go_at_call 76; exact Calls.quiet_of_same ((c1 _).mono fun _ _ ⟨ha, hb⟩ => ⟨ha, hb.symm⟩)))
        go_wp2_with fail
        go_roundw
        case rel => exact ⟨i + 1, _, by omega, by go_num, by first | rw [HC.out] | (rw [← HC.out]; rfl), rfl, below_drewN hb _⟩
        case measure => simp [intOf]; omega
    · obtain rfl : i = l.length := by omega
      have k1 : ¬ (9223372036854775807 < L.length + 1) := by omega
      have HC : Hid (str L ++ { data := #[125] } = str R) := by
        show str L ++ str [125] = _
        rw [str_append, HL.out, List.take_length, ← HR.out]; rfl
      go_wp2_with fail
      go_ret2
      exact ⟨by rw [← HC.out]; rfl, hb⟩
end Go.Proofs.YtdbifbgjbfnfmaaDoor
