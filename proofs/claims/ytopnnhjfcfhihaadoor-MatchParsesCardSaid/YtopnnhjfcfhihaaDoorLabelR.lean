/-
  Layer 4 (label): quoting: what the document's own Quote and Quoted return; all that was in memory stays.
-/
import Derived.Test.YtopnnhjfcfhihaaDoorLabelQ
namespace Go.Proofs.YtopnnhjfcfhihaaDoor
open Go.RowKit Go.Deep
attribute [local go_sem] str_size str_append str_toList str_get str_extract
set_option linter.unusedVariables false
set_option linter.unusedSimpArgs false
theorem refQuote_c (s : List UInt8) (w : World) (hs : s.length ≤ 1048576) : Calls Tryd.prog 29 #[.string (str s)] w fun e w' => e = .returned (.string (str (quoteL s))) ∧ w = w' := by
  obtain ⟨R, hR⟩ : ∃ R, quoteL s = R := ⟨_, rfl⟩
  rw [hR]
  have HR := Lib.hid hR
  clear hR
  go_enter Tryd.func29, Tryd.ntmps29
  go_wp2_with fail
  go_loopw [3, 4] (fun v c wr => ∃ i : Nat, i ≤ s.length ∧ c = .int .i64 i ∧ v = .string (str (quoteB (s.take i))) ∧ w = wr) (fun _ c _ => s.length - (intOf c).toNat)
  case atStart => exact ⟨0, Nat.zero_le _, rfl, rfl, rfl⟩
  case round =>
    obtain ⟨i, hi, rfl, rfl, rfl⟩ := hrel
    have hql := quoteB_len (s.take i)
    rw [List.length_take, Nat.min_eq_left hi] at hql
    by_cases hlt : i < s.length
    · have hst := quoteB_take s i hlt
      have ht1 := take_one s i hlt
      have ht : (s.drop i).take (i + 1 - i) = [s[i]] := by rw [Nat.add_sub_cancel_left]; exact ht1
      obtain ⟨x, hx⟩ : ∃ x, s[i] = x := ⟨_, rfl⟩
      rw [hx] at hst ht ht1
      obtain ⟨L, hL⟩ : ∃ L, quoteB (s.take i) = L := ⟨_, rfl⟩
      have hLl : L.length ≤ 2 * s.length + 1 := by rw [← hL]; omega
      have HS : Hid (quoteB (s.take (i + 1)) = L ++ quoteC x) := by show _ = _; rw [hst, ← hL]
      rw [hL]
      clear hst hL hql
      have hxl : x.toNat < 256 := x.toNat_lt
      by_cases h1 : x.toNat = 34
      · have t1 : (((x.toNat : Nat) : Int) == 34) = true := by simp [h1]
        have HQ : Hid (quoteC x = [92, 34]) := by show _ = _; unfold quoteC; rw [if_pos h1]
        go_wp2_with fail
        go_roundw
        case rel => exact ⟨i + 1, by omega, by go_num, by rw [HS.out, HQ.out]; rfl, by first | rfl | trivial⟩
        case measure => simp [intOf]; omega
      · have t1 : (((x.toNat : Nat) : Int) == 34) = false := by simp; omega
        by_cases h2 : x.toNat = 92
        · have t2 : (((x.toNat : Nat) : Int) == 92) = true := by simp [h2]
          have HQ : Hid (quoteC x = [92, 92]) := by show _ = _; unfold quoteC; rw [if_neg h1, if_pos h2]
          go_wp2_with fail
          go_roundw
          case rel => exact ⟨i + 1, by omega, by go_num, by rw [HS.out, HQ.out]; rfl, by first | rfl | trivial⟩
          case measure => simp [intOf]; omega
        · have t2 : (((x.toNat : Nat) : Int) == 92) = false := by simp; omega
          by_cases h3 : x.toNat = 10
          · have t3 : (((x.toNat : Nat) : Int) == 10) = true := by simp [h3]
            have HQ : Hid (quoteC x = [92, 110]) := by show _ = _; unfold quoteC; rw [if_neg h1, if_neg h2, if_pos h3]
            go_wp2_with fail
            go_roundw
            case rel => exact ⟨i + 1, by omega, by go_num, by rw [HS.out, HQ.out]; rfl, by first | rfl | trivial⟩
            case measure => simp [intOf]; omega
          · have t3 : (((x.toNat : Nat) : Int) == 10) = false := by simp; omega
            have HQ : Hid (quoteC x = [x]) := by show _ = _; unfold quoteC; rw [if_neg h1, if_neg h2, if_neg h3]
            go_wp2_with fail
            go_roundw
            case rel => exact ⟨i + 1, by omega, by go_num, by rw [HS.out, HQ.out], by first | rfl | trivial⟩
            case measure => simp [intOf]; omega
    · obtain rfl : i = s.length := by omega
      obtain ⟨L, hL⟩ : ∃ L, quoteB (s.take s.length) = L := ⟨_, rfl⟩
      have hLl : L.length ≤ 2 * s.length + 1 := by rw [← hL]; omega
      have HR' : Hid (R = 34 :: (L ++ [34])) := by show _ = _; rw [← HR.out, ← hL, List.take_length]; rfl
      rw [hL]
      clear hL hql
      go_wp2_with fail
      go_ret
      exact ⟨ret_str HR'.out.symm, rfl⟩
theorem refQuoted_c (s : List UInt8) (w : World) (hs : s.length ≤ 1048576) : Calls Tryd.prog 31 #[.string (str s)] w fun e w' => e = .returned (.tuple #[.string (str (quotedL s).1), .int .i64 ((quotedL s).2 : Nat)]) ∧ w = w' := by
  obtain ⟨V, hV⟩ : ∃ V, (quotedL s).1 = V := ⟨_, rfl⟩
  obtain ⟨M, hM⟩ : ∃ M, (quotedL s).2 = M := ⟨_, rfl⟩
  rw [hV, hM]
  have HR : Hid (quotedL s = (V, M)) := by show _ = _; rw [← hV, ← hM]
  clear hV hM
  by_cases h0 : 0 < s.length
  case neg =>
    obtain rfl : s = [] := List.eq_nil_of_length_eq_zero (by omega)
    have := HR.out
    simp only [quotedL, Prod.mk.injEq] at this
    obtain ⟨rfl, rfl⟩ := this
    go_enter Tryd.func31, Tryd.ntmps31
    go_wp2_with fail
    go_ret2
    exact ⟨rfl, rfl⟩
  have h00 : ((s.length : Int) == 0) = false := by rw [beq_eq_false_iff_ne]; omega
  by_cases hc : (s[0]).toNat = 34
  case neg =>
    have e := quotedL_not h0 hc
    rw [HR.out] at e
    simp only [Prod.mk.injEq] at e
    obtain ⟨rfl, rfl⟩ := e
    obtain ⟨x, hx⟩ : ∃ x, s[0] = x := ⟨_, rfl⟩
    rw [hx] at hc
    have t1 : (((x.toNat : Nat) : Int) == 34) = false := by simp; omega
    have t2 : (((x.toNat : Nat) : Int) != 34) = true := by simp [bne, t1]
    clear hc HR
    go_enter Tryd.func31, Tryd.ntmps31
    go_wp2_with fail
    go_ret2
    exact ⟨rfl, rfl⟩
  have HC := Lib.hid hc
  obtain ⟨x0, hx0⟩ : ∃ x, s[0] = x := ⟨_, rfl⟩
  have hx0' : x0.toNat = 34 := by rw [← hx0]; exact hc
  have t2 : (((x0.toNat : Nat) : Int) != 34) = false := by simp [bne, hx0']
  clear hc hx0'
  go_enter Tryd.func31, Tryd.ntmps31
  go_wp2_with fail
  go_loopw [4, 5] (fun v c wr => ∃ (i : Nat) (acc : List UInt8), i ≤ s.length ∧ c = .int .i64 i ∧ v = .string (str acc) ∧ acc.length ≤ i ∧ Hid (scan (s.drop 1) = pre acc (scan (s.drop i))) ∧ w = wr) (fun _ c _ => s.length - (intOf c).toNat)
  case atStart => exact ⟨1, [], by omega, rfl, rfl, by simp, by show _ = _; rw [pre_nil], rfl⟩
  case round =>
    obtain ⟨i, acc, hi, rfl, rfl, hal, HI, rfl⟩ := hrel
    by_cases hlt : i < s.length
    · have ht1 := take_one s i hlt
      have ht : (s.drop i).take (i + 1 - i) = [s[i]] := by rw [Nat.add_sub_cancel_left]; exact ht1
      have e34 := fun h => pre_end (acc := acc) hlt h
      have epl := fun h1 h2 => pre_plain (acc := acc) hlt h1 h2
      have ecut := fun he h2 => pre_cut (s := s) (acc := acc) (i := i) he h2
      have eesc := fun he h2 => pre_esc (s := s) (acc := acc) (i := i) he h2
      have E34 := Lib.hid e34
      have EPL := Lib.hid epl
      have ECUT := Lib.hid ecut
      have EESC := Lib.hid eesc
      clear e34 epl ecut eesc
      obtain ⟨x, hx⟩ : ∃ x, s[i] = x := ⟨_, rfl⟩
      rw [hx] at ht ht1 
      have HX := Lib.hid hx
      have hxl : x.toNat < 256 := x.toNat_lt
      by_cases h1 : x.toNat = 34
      · have t1 : (((x.toNat : Nat) : Int) == 34) = true := by simp [h1]
        have e := quotedL_some h0 HC.out (HI.out.trans (E34.out (by rw [HX.out]; exact h1)))
        rw [HR.out] at e
        simp only [Prod.mk.injEq, List.length_drop] at e
        obtain ⟨rfl, hM⟩ := e
        obtain rfl : M = i + 1 := by omega
        clear hM
        go_wp2_with fail
        go_ret2
        exact ⟨by simp, rfl⟩
      · have t1 : (((x.toNat : Nat) : Int) == 34) = false := by simp; omega
        by_cases h2 : x.toNat = 92
        · have t2 : (((x.toNat : Nat) : Int) == 92) = true := by simp [h2]
          by_cases hend : i + 1 = s.length
          · have t3 : (((i : Int) + 1) == (s.length : Int)) = true := by simp; omega
            have e := quotedL_none h0 (HI.out.trans (ECUT.out hend (by rw [HX.out]; exact h2)))
            rw [HR.out] at e
            simp only [Prod.mk.injEq] at e
            obtain ⟨rfl, rfl⟩ := e
            go_wp2_with fail
            go_ret2
            exact ⟨rfl, rfl⟩
          · have t3 : (((i : Int) + 1) == (s.length : Int)) = false := by simp; omega
            have hlt2 : i + 1 < s.length := by omega
            have hu1 := take_one s (i + 1) hlt2
            have hu : (s.drop (i + 1)).take (i + 1 + 1 - (i + 1)) = [s[i + 1]] := by rw [Nat.add_sub_cancel_left]; exact hu1
            have es := EESC.out hlt2 (by rw [HX.out]; exact h2)
            obtain ⟨y, hy⟩ : ∃ y, s[i + 1] = y := ⟨_, rfl⟩
            rw [hy] at hu hu1 es
            have hyl : y.toNat < 256 := y.toNat_lt
            by_cases h3 : y.toNat = 110
            · have t4 : (((y.toNat : Nat) : Int) == 110) = true := by simp [h3]
              rw [if_pos h3] at es
              have ES := Lib.hid (HI.out.trans es)
              clear es hend
              go_wp2_with fail
              go_roundw
              case rel => exact ⟨i + 2, acc ++ [10], by omega, by go_num, rfl, by simp; omega, ES.out, by first | rfl | trivial⟩
              case measure => simp [intOf]; omega
            · have t4 : (((y.toNat : Nat) : Int) == 110) = false := by simp; omega
              rw [if_neg h3] at es
              have ES := Lib.hid (HI.out.trans es)
              clear es hend
              go_wp2_with fail
              go_roundw
              case rel => exact ⟨i + 2, acc ++ [y], by omega, by go_num, rfl, by simp; omega, ES.out, by first | rfl | trivial⟩
              case measure => simp [intOf]; omega
        · have t2 : (((x.toNat : Nat) : Int) == 92) = false := by simp; omega
          have es := HI.out.trans (EPL.out (by rw [HX.out]; exact h1) (by rw [HX.out]; exact h2))
          rw [HX.out] at es
          have ES := Lib.hid es
          clear es
          go_wp2_with fail
          go_roundw
          case rel => exact ⟨i + 1, acc ++ [x], by omega, by go_num, rfl, by simp; omega, ES.out, by first | rfl | trivial⟩
          case measure => simp [intOf]; omega
    · obtain rfl : i = s.length := by omega
      have e := quotedL_none h0 (HI.out.trans pre_none)
      rw [HR.out] at e
      simp only [Prod.mk.injEq] at e
      obtain ⟨rfl, rfl⟩ := e
      go_wp2_with fail
      go_ret2
      exact ⟨rfl, rfl⟩
end Go.Proofs.YtopnnhjfcfhihaaDoor
