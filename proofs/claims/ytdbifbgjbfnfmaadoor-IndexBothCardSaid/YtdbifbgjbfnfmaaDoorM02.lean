/-
  Texts of the same seat, one behind the other (merged; each says at its head what it is).
-/
import Derived.Test.YtdbifbgjbfnfmaaDoorM01
import Derived.Lib.OthersKept
import Derived.Shelf.Unicode.DecodeAny
/-
  Layer 4 (label): values: what the program's Value, and the document's own, return; all that was in memory stays.
-/
namespace Go.Proofs.YtdbifbgjbfnfmaaDoor
open Go.RowKit Go.Deep
attribute [local go_sem] str_size str_append str_toList str_get str_extract
set_option linter.unusedVariables false
set_option linter.unusedSimpArgs false
/-- The rune so far, i bytes read. -/
def rAcc (r0 : Nat) (s : List UInt8) : Nat → Nat
  | 0 => r0
  | 1 => r0
  | i + 2 => rAcc r0 s (i + 1) * 64 + byt s (i + 1) - 128
theorem rAcc_2 (r0 : Nat) (s : List UInt8) : rAcc r0 s 2 = r0 * 64 + byt s 1 - 128 := rfl
theorem rAcc_3 (r0 : Nat) (s : List UInt8) : rAcc r0 s 3 = (r0 * 64 + byt s 1 - 128) * 64 + byt s 2 - 128 := rfl
theorem rAcc_4 (r0 : Nat) (s : List UInt8) : rAcc r0 s 4 = ((r0 * 64 + byt s 1 - 128) * 64 + byt s 2 - 128) * 64 + byt s 3 - 128 := rfl
set_option maxRecDepth 100000 in
set_option maxHeartbeats 2000000 in
theorem wide_c (s : List UInt8) (w : World) (h0 : 0 < s.length) (hs : s.length ≤ 1099511627776) : Calls Tryd.prog 97 #[.string (str s)] w fun e w' => e = .returned (.int .i64 (wideL s : Nat)) ∧ w = w' := by
  have hb0 := byt_at h0
  have HB := Lib.hid (fun i (h : i < s.length) => byt_at h)
  have hl0 := byt_lt s 0
  obtain ⟨b, hb⟩ : ∃ b, byt s 0 = b := ⟨_, rfl⟩
  have HBB := Lib.hid hb
  rw [hb] at hb0 hl0
  have hget : (s[0]'h0).toNat = b := hb0.symm
  obtain ⟨x0, hx0⟩ : ∃ x, s[0]'h0 = x := ⟨_, rfl⟩
  rw [hx0] at hget
  have hxb : ((x0.toNat : Nat) : Int) = (b : Int) := by rw [hget]
  clear hb hb0 hget
  by_cases c1 : b < 128
  · have e := wide_one (s := s) (by rw [HBB.out]; exact c1)
    rw [e]
    go_enter Tryd.func97, Tryd.ntmps97
    go_wp2_with fail
    go_ret
    exact ⟨rfl, rfl⟩
  by_cases c2 : b < 192
  · have e := wide_none (s := s) (.inl (by rw [HBB.out]; omega))
    rw [e]
    go_enter Tryd.func97, Tryd.ntmps97
    go_wp2_with fail
    go_ret
    exact ⟨rfl, rfl⟩
--WIDEBEGIN
  by_cases c3 : b < 224
  case pos =>
    have hbr : 192 ≤ byt s 0 ∧ byt s 0 < 224 := by rw [HBB.out]; omega
    have HBAD := Lib.hid (fun h => wide_two_bad hbr h)
    have HGOOD := Lib.hid (wide_two hbr)
    by_cases hln : (s.length : Int) < 2
    · have e := HBAD.out (.inl (by omega))
      rw [e]
      clear hbr
      go_enter Tryd.func97, Tryd.ntmps97
      go_wp2_with fail
      go_ret
      exact ⟨rfl, rfl⟩
    obtain ⟨W, hW⟩ : ∃ W, wideL s = W := ⟨_, rfl⟩
    rw [hW]
    have HW := Lib.hid hW
    have hr0 : (b : Int) - 192 = ((b - 192 : Nat) : Int) := by omega
    obtain ⟨r0, hre⟩ : ∃ r0, b - 192 = r0 := ⟨_, rfl⟩
    rw [hre] at hr0
    have HRE := Lib.hid hre
    have hr0l : r0 < 32 := by omega
    clear hbr hW hre
    go_enter Tryd.func97, Tryd.ntmps97
    go_wp2_with fail
    go_loopw [5, 6] (fun a c wr => ∃ (i r : Nat), 1 ≤ i ∧ i ≤ 2 ∧ c = .int .i64 i ∧ a = .int .i64 r ∧ Hid (r = rAcc r0 s i) ∧ Hid (∀ j, 1 ≤ j → j < i → 128 ≤ byt s j ∧ byt s j < 192) ∧ (i = 1 → r < 32) ∧ (i = 2 → r < 2048) ∧ (i = 3 → r < 131072) ∧ (i = 4 → r < 8388608) ∧ w = wr) (fun _ c _ => 2 - (intOf c).toNat)
    case atStart => exact ⟨1, r0, by omega, by omega, rfl, rfl, rfl, fun j h h' => by omega, fun _ => hr0l, by omega, by omega, by omega, rfl⟩
    case round =>
      obtain ⟨i, r, hi1, hi, rfl, rfl, HRR, HC, q1, q2, q3, q4, rfl⟩ := hrel
      have hrl : r < 8388608 := by omega
      by_cases hlt : i < 2
      · have hil : i < s.length := by omega
        have hbi := HB.out i hil
        obtain ⟨x, hxe⟩ : ∃ x, s[i]'hil = x := ⟨_, rfl⟩
        rw [hxe] at hbi
        have HBI := Lib.hid hbi
        have hxl : x.toNat < 256 := x.toNat_lt
        clear hbi
        by_cases a1 : x.toNat < 128
        · have t1 : (x.toNat : Int) < 128 := by omega
          have e := HBAD.out (by have hh := HBI.out; rcases (by omega : i = 1 ∨ i = 2 ∨ i = 3) with h1 | h1 | h1 <;> subst h1 <;> omega : _)
          rw [HW.out] at e
          subst e
          clear q1 q2 q3 q4
          go_wp2_with fail
          go_ret
          exact ⟨rfl, rfl⟩
        have t1 : ¬ (x.toNat : Int) < 128 := by omega
        by_cases a2 : 192 ≤ x.toNat
        · have t2 : 192 ≤ (x.toNat : Int) := by omega
          have e := HBAD.out (by have hh := HBI.out; rcases (by omega : i = 1 ∨ i = 2 ∨ i = 3) with h1 | h1 | h1 <;> subst h1 <;> omega : _)
          rw [HW.out] at e
          subst e
          clear q1 q2 q3 q4
          go_wp2_with fail
          go_ret
          exact ⟨rfl, rfl⟩
        have t2 : ¬ 192 ≤ (x.toNat : Int) := by omega
        obtain ⟨r', hr'⟩ : ∃ r', r' = r * 64 + x.toNat - 128 := ⟨_, rfl⟩
        have hr2 : (r : Int) * 64 + (x.toNat : Int) - 128 = (r' : Int) := by omega
        have HN : Hid (r' = rAcc r0 s (i + 1) ∧ ((i + 1 = 1 → r' < 32) ∧ (i + 1 = 2 → r' < 2048) ∧ (i + 1 = 3 → r' < 131072) ∧ (i + 1 = 4 → r' < 8388608)) ∧ (∀ j, 1 ≤ j → j < i + 1 → 128 ≤ byt s j ∧ byt s j < 192)) := by
          refine ⟨?_, ⟨by omega, by omega, by omega, by omega⟩, ?_⟩
          · obtain ⟨i', rfl⟩ : ∃ i', i = i' + 1 := ⟨i - 1, by omega⟩
            show r' = rAcc r0 s (i' + 1) * 64 + byt s (i' + 1) - 128
            rw [hr', ← HRR.out, HBI.out]
          · intro j h1 h2
            by_cases hj : j = i
            · subst hj; rw [HBI.out]; omega
            · exact HC.out j h1 (by omega)
        clear q1 q2 q3 q4 hr' a1 a2
        go_wp2_with fail
        go_roundw
        case rel => exact ⟨i + 1, r', by omega, by omega, by go_num, rfl, HN.out.1, HN.out.2.2, HN.out.2.1.1, HN.out.2.1.2.1, HN.out.2.1.2.2.1, HN.out.2.1.2.2.2, by first | rfl | trivial⟩
        case measure => simp [intOf]; omega
      · obtain rfl : i = 2 := by omega
        have hc1 := HC.out
        have e := HGOOD.out r (by rw [HRR.out, rAcc_2, HBB.out, HRE.out]) (HC.out 1 (by omega) (by omega)) (by omega)
        rw [HW.out] at e
        have hrb2 : r < 2048 := q2 rfl
        clear q1 q2 q3 q4 hc1
        by_cases f1 : (r : Int) < 128
        · rw [if_pos (by omega)] at e
          subst e
          go_wp2_with fail
          go_ret
          exact ⟨rfl, rfl⟩
        · rw [if_neg (by omega)] at e
          subst e
          have f2 : ¬ 1114111 < (r : Int) := by omega
          have f3 : ¬ 55296 ≤ (r : Int) := by omega
          go_wp2_with fail
          go_ret
          exact ⟨rfl, rfl⟩
  by_cases c4 : b < 240
  case pos =>
    have hbr : 224 ≤ byt s 0 ∧ byt s 0 < 240 := by rw [HBB.out]; omega
    have HBAD := Lib.hid (fun h => wide_three_bad hbr h)
    have HGOOD := Lib.hid (wide_three hbr)
    by_cases hln : (s.length : Int) < 3
    · have e := HBAD.out (.inl (by omega))
      rw [e]
      clear hbr
      go_enter Tryd.func97, Tryd.ntmps97
      go_wp2_with fail
      go_ret
      exact ⟨rfl, rfl⟩
    obtain ⟨W, hW⟩ : ∃ W, wideL s = W := ⟨_, rfl⟩
    rw [hW]
    have HW := Lib.hid hW
    have hr0 : (b : Int) - 224 = ((b - 224 : Nat) : Int) := by omega
    obtain ⟨r0, hre⟩ : ∃ r0, b - 224 = r0 := ⟨_, rfl⟩
    rw [hre] at hr0
    have HRE := Lib.hid hre
    have hr0l : r0 < 32 := by omega
    clear hbr hW hre
    go_enter Tryd.func97, Tryd.ntmps97
    go_wp2_with fail
    go_loopw [5, 6] (fun a c wr => ∃ (i r : Nat), 1 ≤ i ∧ i ≤ 3 ∧ c = .int .i64 i ∧ a = .int .i64 r ∧ Hid (r = rAcc r0 s i) ∧ Hid (∀ j, 1 ≤ j → j < i → 128 ≤ byt s j ∧ byt s j < 192) ∧ (i = 1 → r < 32) ∧ (i = 2 → r < 2048) ∧ (i = 3 → r < 131072) ∧ (i = 4 → r < 8388608) ∧ w = wr) (fun _ c _ => 3 - (intOf c).toNat)
    case atStart => exact ⟨1, r0, by omega, by omega, rfl, rfl, rfl, fun j h h' => by omega, fun _ => hr0l, by omega, by omega, by omega, rfl⟩
    case round =>
      obtain ⟨i, r, hi1, hi, rfl, rfl, HRR, HC, q1, q2, q3, q4, rfl⟩ := hrel
      have hrl : r < 8388608 := by omega
      by_cases hlt : i < 3
      · have hil : i < s.length := by omega
        have hbi := HB.out i hil
        obtain ⟨x, hxe⟩ : ∃ x, s[i]'hil = x := ⟨_, rfl⟩
        rw [hxe] at hbi
        have HBI := Lib.hid hbi
        have hxl : x.toNat < 256 := x.toNat_lt
        clear hbi
        by_cases a1 : x.toNat < 128
        · have t1 : (x.toNat : Int) < 128 := by omega
          have e := HBAD.out (by have hh := HBI.out; rcases (by omega : i = 1 ∨ i = 2 ∨ i = 3) with h1 | h1 | h1 <;> subst h1 <;> omega : _)
          rw [HW.out] at e
          subst e
          clear q1 q2 q3 q4
          go_wp2_with fail
          go_ret
          exact ⟨rfl, rfl⟩
        have t1 : ¬ (x.toNat : Int) < 128 := by omega
        by_cases a2 : 192 ≤ x.toNat
        · have t2 : 192 ≤ (x.toNat : Int) := by omega
          have e := HBAD.out (by have hh := HBI.out; rcases (by omega : i = 1 ∨ i = 2 ∨ i = 3) with h1 | h1 | h1 <;> subst h1 <;> omega : _)
          rw [HW.out] at e
          subst e
          clear q1 q2 q3 q4
          go_wp2_with fail
          go_ret
          exact ⟨rfl, rfl⟩
        have t2 : ¬ 192 ≤ (x.toNat : Int) := by omega
        obtain ⟨r', hr'⟩ : ∃ r', r' = r * 64 + x.toNat - 128 := ⟨_, rfl⟩
        have hr2 : (r : Int) * 64 + (x.toNat : Int) - 128 = (r' : Int) := by omega
        have HN : Hid (r' = rAcc r0 s (i + 1) ∧ ((i + 1 = 1 → r' < 32) ∧ (i + 1 = 2 → r' < 2048) ∧ (i + 1 = 3 → r' < 131072) ∧ (i + 1 = 4 → r' < 8388608)) ∧ (∀ j, 1 ≤ j → j < i + 1 → 128 ≤ byt s j ∧ byt s j < 192)) := by
          refine ⟨?_, ⟨by omega, by omega, by omega, by omega⟩, ?_⟩
          · obtain ⟨i', rfl⟩ : ∃ i', i = i' + 1 := ⟨i - 1, by omega⟩
            show r' = rAcc r0 s (i' + 1) * 64 + byt s (i' + 1) - 128
            rw [hr', ← HRR.out, HBI.out]
          · intro j h1 h2
            by_cases hj : j = i
            · subst hj; rw [HBI.out]; omega
            · exact HC.out j h1 (by omega)
        clear q1 q2 q3 q4 hr' a1 a2
        go_wp2_with fail
        go_roundw
        case rel => exact ⟨i + 1, r', by omega, by omega, by go_num, rfl, HN.out.1, HN.out.2.2, HN.out.2.1.1, HN.out.2.1.2.1, HN.out.2.1.2.2.1, HN.out.2.1.2.2.2, by first | rfl | trivial⟩
        case measure => simp [intOf]; omega
      · obtain rfl : i = 3 := by omega
        have hc1 := HC.out
        have e := HGOOD.out r (by rw [HRR.out, rAcc_3, HBB.out, HRE.out]) (HC.out 1 (by omega) (by omega)) (HC.out 2 (by omega) (by omega)) (by omega)
        rw [HW.out] at e
        have hrb2 : r < 131072 := q3 rfl
        clear q1 q2 q3 q4 hc1
        by_cases f1 : (r : Int) < 2048
        · rw [if_pos (by omega)] at e
          subst e
          go_wp2_with fail
          go_ret
          exact ⟨rfl, rfl⟩
        · have f2 : ¬ 1114111 < (r : Int) := by omega
          by_cases f3 : 55296 ≤ (r : Int)
          · by_cases f4 : (r : Int) < 57344
            · rw [if_pos (by omega)] at e
              subst e
              go_wp2_with fail
              go_ret
              exact ⟨rfl, rfl⟩
            · rw [if_neg (by omega)] at e
              subst e
              go_wp2_with fail
              go_ret
              exact ⟨rfl, rfl⟩
          · rw [if_neg (by omega)] at e
            subst e
            go_wp2_with fail
            go_ret
            exact ⟨rfl, rfl⟩
  by_cases c5 : b < 248
  case pos =>
    have hbr : 240 ≤ byt s 0 ∧ byt s 0 < 248 := by rw [HBB.out]; omega
    have HBAD := Lib.hid (fun h => wide_four_bad hbr h)
    have HGOOD := Lib.hid (wide_four hbr)
    by_cases hln : (s.length : Int) < 4
    · have e := HBAD.out (.inl (by omega))
      rw [e]
      clear hbr
      go_enter Tryd.func97, Tryd.ntmps97
      go_wp2_with fail
      go_ret
      exact ⟨rfl, rfl⟩
    obtain ⟨W, hW⟩ : ∃ W, wideL s = W := ⟨_, rfl⟩
    rw [hW]
    have HW := Lib.hid hW
    have hr0 : (b : Int) - 240 = ((b - 240 : Nat) : Int) := by omega
    obtain ⟨r0, hre⟩ : ∃ r0, b - 240 = r0 := ⟨_, rfl⟩
    rw [hre] at hr0
    have HRE := Lib.hid hre
    have hr0l : r0 < 32 := by omega
    clear hbr hW hre
    go_enter Tryd.func97, Tryd.ntmps97
    go_wp2_with fail
    go_loopw [5, 6] (fun a c wr => ∃ (i r : Nat), 1 ≤ i ∧ i ≤ 4 ∧ c = .int .i64 i ∧ a = .int .i64 r ∧ Hid (r = rAcc r0 s i) ∧ Hid (∀ j, 1 ≤ j → j < i → 128 ≤ byt s j ∧ byt s j < 192) ∧ (i = 1 → r < 32) ∧ (i = 2 → r < 2048) ∧ (i = 3 → r < 131072) ∧ (i = 4 → r < 8388608) ∧ w = wr) (fun _ c _ => 4 - (intOf c).toNat)
    case atStart => exact ⟨1, r0, by omega, by omega, rfl, rfl, rfl, fun j h h' => by omega, fun _ => hr0l, by omega, by omega, by omega, rfl⟩
    case round =>
      obtain ⟨i, r, hi1, hi, rfl, rfl, HRR, HC, q1, q2, q3, q4, rfl⟩ := hrel
      have hrl : r < 8388608 := by omega
      by_cases hlt : i < 4
      · have hil : i < s.length := by omega
        have hbi := HB.out i hil
        obtain ⟨x, hxe⟩ : ∃ x, s[i]'hil = x := ⟨_, rfl⟩
        rw [hxe] at hbi
        have HBI := Lib.hid hbi
        have hxl : x.toNat < 256 := x.toNat_lt
        clear hbi
        by_cases a1 : x.toNat < 128
        · have t1 : (x.toNat : Int) < 128 := by omega
          have e := HBAD.out (by have hh := HBI.out; rcases (by omega : i = 1 ∨ i = 2 ∨ i = 3) with h1 | h1 | h1 <;> subst h1 <;> omega : _)
          rw [HW.out] at e
          subst e
          clear q1 q2 q3 q4
          go_wp2_with fail
          go_ret
          exact ⟨rfl, rfl⟩
        have t1 : ¬ (x.toNat : Int) < 128 := by omega
        by_cases a2 : 192 ≤ x.toNat
        · have t2 : 192 ≤ (x.toNat : Int) := by omega
          have e := HBAD.out (by have hh := HBI.out; rcases (by omega : i = 1 ∨ i = 2 ∨ i = 3) with h1 | h1 | h1 <;> subst h1 <;> omega : _)
          rw [HW.out] at e
          subst e
          clear q1 q2 q3 q4
          go_wp2_with fail
          go_ret
          exact ⟨rfl, rfl⟩
        have t2 : ¬ 192 ≤ (x.toNat : Int) := by omega
        obtain ⟨r', hr'⟩ : ∃ r', r' = r * 64 + x.toNat - 128 := ⟨_, rfl⟩
        have hr2 : (r : Int) * 64 + (x.toNat : Int) - 128 = (r' : Int) := by omega
        have HN : Hid (r' = rAcc r0 s (i + 1) ∧ ((i + 1 = 1 → r' < 32) ∧ (i + 1 = 2 → r' < 2048) ∧ (i + 1 = 3 → r' < 131072) ∧ (i + 1 = 4 → r' < 8388608)) ∧ (∀ j, 1 ≤ j → j < i + 1 → 128 ≤ byt s j ∧ byt s j < 192)) := by
          refine ⟨?_, ⟨by omega, by omega, by omega, by omega⟩, ?_⟩
          · obtain ⟨i', rfl⟩ : ∃ i', i = i' + 1 := ⟨i - 1, by omega⟩
            show r' = rAcc r0 s (i' + 1) * 64 + byt s (i' + 1) - 128
            rw [hr', ← HRR.out, HBI.out]
          · intro j h1 h2
            by_cases hj : j = i
            · subst hj; rw [HBI.out]; omega
            · exact HC.out j h1 (by omega)
        clear q1 q2 q3 q4 hr' a1 a2
        go_wp2_with fail
        go_roundw
        case rel => exact ⟨i + 1, r', by omega, by omega, by go_num, rfl, HN.out.1, HN.out.2.2, HN.out.2.1.1, HN.out.2.1.2.1, HN.out.2.1.2.2.1, HN.out.2.1.2.2.2, by first | rfl | trivial⟩
        case measure => simp [intOf]; omega
      · obtain rfl : i = 4 := by omega
        have hc1 := HC.out
        have e := HGOOD.out r (by rw [HRR.out, rAcc_4, HBB.out, HRE.out]) (HC.out 1 (by omega) (by omega)) (HC.out 2 (by omega) (by omega)) (HC.out 3 (by omega) (by omega)) (by omega)
        rw [HW.out] at e
        clear q1 q2 q3 q4 hc1
        by_cases f1 : (r : Int) < 65536
        · rw [if_pos (by omega)] at e
          subst e
          go_wp2_with fail
          go_ret
          exact ⟨rfl, rfl⟩
        · by_cases f2 : 1114111 < (r : Int)
          · rw [if_pos (by omega)] at e
            subst e
            go_wp2_with fail
            go_ret
            exact ⟨rfl, rfl⟩
          · rw [if_neg (by omega)] at e
            subst e
            have f3 : 55296 ≤ (r : Int) := by omega
            have f4 : ¬ (r : Int) < 57344 := by omega
            go_wp2_with fail
            go_ret
            exact ⟨rfl, rfl⟩
  have e := wide_none (s := s) (.inr (by rw [HBB.out]; omega))
  rw [e]
  go_enter Tryd.func97, Tryd.ntmps97
  go_wp2_with fail
  go_ret
  exact ⟨rfl, rfl⟩
--WIDEEND
theorem written_c (s : List UInt8) (w : World) (h0 : 0 < s.length) (hT : Lib.Utf8Tabs 1 2 w) (b : Bool) (hb : decide ((Lib.decodeL s).2 = 3) = b) : Calls Tryd.prog 107 #[.string (str s)] w fun e w' => e = .returned (.bool b) ∧ Below w.heap.size w w' := by
  have hd : Lib.decodeGo (str s) = Lib.decodeL s := by
    unfold Lib.decodeGo
    rw [if_neg (by rw [str_size]; omega), decode_str]; rfl
  have c1 := fun W h => Tryd.utf8_DecodeRuneInString (str s) W h
  rw [hd] at c1
  obtain ⟨k, hk⟩ : ∃ k, (Lib.decodeL s).2 = k := ⟨_, rfl⟩
  rw [hk] at hb c1
  have hb' : (((k : Nat) : Int) == 3) = b := by rw [← hb, Bool.eq_iff_iff]; simp; omega
  clear hb hk hd
  go_enter Tryd.func107, Tryd.ntmps107
  go_wp2_with (first | (go_at_call 123; refine (c1 _ hT).mono ?_; rintro e w1 ⟨rfl, hb1⟩) | (go_at_call 124; refine (Tryd.utf8_RuneLen 65533 _).mono ?_; rintro e w2 ⟨rfl, rfl⟩))
  go_ret
  exact ⟨by simp [Lib.runeLen, hb'], hb1⟩
theorem value_c (s : List UInt8) (w : World) (hs : s.length ≤ 1099511627776) (hT : Lib.Utf8Tabs 1 2 w) : Calls Tryd.prog 82 #[.string (str s)] w fun e w' => e = .returned (.bool (valueL s)) ∧ Below w.heap.size w w' := by
  by_cases h32 : 32 < (s.length : Int)
  · rw [valueL_long (by omega)]
    go_enter Tryd.func82, Tryd.ntmps82
    go_wp2
    go_ret
    exact ⟨rfl, Below.refl _ _⟩
  rw [valueL_of (by omega)]
  obtain ⟨R, hR⟩ : ∃ R, utfL s.length s = R := ⟨_, rfl⟩
  rw [hR]
  have HR := Lib.hid hR
  clear hR
  go_enter Tryd.func82, Tryd.ntmps82
  go_wp2_with fail
  go_loopw [] (fun wr => ∃ pos : Nat, pos ≤ s.length ∧ wr.heap[w.heap.size]? = some (.stringIter (str s) pos) ∧ Below w.heap.size w wr ∧ Hid (utfL (s.drop pos).length (s.drop pos) = R)) (fun wr => s.length - wr.iterPos w.heap.size)
  case atStart => exact ⟨0, Nat.zero_le _, World.iter_heap _ _ _, (Below.refl _ _).alloc (Nat.le_refl _) _, HR.out⟩
  case round =>
    obtain ⟨pos, hp, hit, hb, HI⟩ := hrel
    have hsz : w.heap.size < wr.heap.size := (Array.getElem?_eq_some_iff.1 hit).1
    have hmeas : wr.iterPos w.heap.size = pos := by simp [World.iterPos, hit]
    by_cases hlt : pos < s.length
    · have hnx := fun ty => Lib.run_next_any_at (P := Tryd.prog) wr w.heap.size (str s) pos ty hit (by rw [str_size]; exact hlt)
      rw [decode_str] at hnx
      have hne : s.drop pos ≠ [] := by
        intro e; have := congrArg List.length e; rw [List.length_drop] at this; simp at this; omega
      have hlen : (s.drop pos).length = s.length - pos := List.length_drop
      have hwl := wide_le hne
      have htk : (s.drop pos).take (s.length - pos) = s.drop pos := List.take_of_length_le (by omega)
      have hit2 := fun k => Lib.iterAt_heap wr w.heap.size (str s) pos k hit
      have hb2 := fun k => Lib.below_iterAt hb (k := w.heap.size) (Nat.le_refl _) (str s) k
      have hT2 := fun k => Utf8Tabs_below hT (hb2 k)
      have hwr := fun W h b => written_c (s.drop pos) W (by omega) h b
      rcases dec_cases (s.drop pos) with ⟨d1, d2, d3⟩ | ⟨d2, d3, d4⟩
      · have e := utf_bad hne d3
        rw [HI.out] at e
        subst e
        rw [d1, d2] at hnx
        have hwr' := fun W h => hwr W h false (by rw [d2]; rfl)
        have h2 := hb2 (pos + 1)
        have hT3 := hT2 (pos + 1)
        have hsz2 : w.heap.size < (wr.iterAt w.heap.size (str s) (pos + 1)).heap.size := by rw [Lib.iterAt_size]; exact hsz
        clear d1 d2 d3 hwr hwl hlen hne hT2 hb2 hit2
        generalize wr.iterAt w.heap.size (str s) (pos + 1) = wi at *
        go_wp2_with (go_at_call 107; refine (hwr' _ hT3).mono ?_; rintro e w1 ⟨rfl, hb1⟩)
        go_ret
        exact ⟨rfl, h2.trans (hb1.mono (by omega))⟩
      · have hst := utf_step hne (by omega)
        rw [HI.out, List.drop_drop] at hst
        rw [d2] at hnx
        obtain ⟨k, hk⟩ : ∃ k, wideL (s.drop pos) = k := ⟨_, rfl⟩
        rw [hk] at d3 hnx hst hwl
        have HS := Lib.hid hst
        have hq := Lib.decodeL_rune (s.drop pos)
        by_cases hr : (Lib.decodeL (s.drop pos)).1 = 65533
        · have d5 := d4 hr
          rw [hr] at hnx
          have hwr' := fun W h => hwr W h true (by rw [d2, d5]; rfl)
          have h1 := hit2 (pos + k)
          have h2 := hb2 (pos + k)
          have hsz2 : w.heap.size < (wr.iterAt w.heap.size (str s) (pos + k)).heap.size := by rw [Lib.iterAt_size]; exact hsz
          have hT3 := hT2 (pos + k)
          clear d2 d4 d5 hr hq hwr hst hk hne hT2 hb2 hit2
          generalize wr.iterAt w.heap.size (str s) (pos + k) = wi at *
          go_wp2_with (go_at_call 107; refine (hwr' _ hT3).mono ?_; rintro e w1 ⟨rfl, hb1⟩)
          have h3 : w1.heap[w.heap.size]? = some (.stringIter (str s) (pos + k)) := (hb1.block _ hsz2).trans h1
          go_wp2_with fail
          go_roundw
          case rel => exact ⟨pos + k, by omega, h3, h2.trans (hb1.mono (by omega)), HS.out.symm⟩
          case measure => rw [hmeas]; simp only [World.iterPos, h3]; omega
        · obtain ⟨r, hre⟩ : ∃ r, (Lib.decodeL (s.drop pos)).1 = r := ⟨_, rfl⟩
          rw [hre] at hnx hr hq
          have t1 : ((r : Int) == 65533) = false := by rw [beq_eq_false_iff_ne]; omega
          have h1 := hit2 (pos + k)
          have h2 := hb2 (pos + k)
          clear d2 d4 hr hwr hst hk hne hre
          go_wp2_with fail
          go_roundw
          case rel => exact ⟨pos + k, by omega, h1, h2, HS.out.symm⟩
          case measure => rw [hmeas]; simp only [World.iterPos, h1]; omega
    · obtain rfl : pos = s.length := by omega
      have hnx := fun ty => Lib.run_next_end_at (P := Tryd.prog) wr w.heap.size (str s) s.length ty hit (by rw [str_size]; omega)
      have e := HI.out
      rw [List.drop_length, utf_nil] at e
      subst e
      go_wp2_with fail
      go_ret
      exact ⟨rfl, hb⟩
end Go.Proofs.YtdbifbgjbfnfmaaDoor
/-
  Layer 4 (label): quoting: what the document's own Quote and Quoted return; all that was in memory stays.
-/
namespace Go.Proofs.YtdbifbgjbfnfmaaDoor
open Go.RowKit Go.Deep
attribute [local go_sem] str_size str_append str_toList str_get str_extract
set_option linter.unusedVariables false
set_option linter.unusedSimpArgs false
theorem refQuote_c (s : List UInt8) (w : World) (hs : s.length ≤ 1048576) : Calls Tryd.prog 76 #[.string (str s)] w fun e w' => e = .returned (.string (str (quoteL s))) ∧ w = w' := by
  obtain ⟨R, hR⟩ : ∃ R, quoteL s = R := ⟨_, rfl⟩
  rw [hR]
  have HR := Lib.hid hR
  clear hR
  go_enter Tryd.func76, Tryd.ntmps76
  go_wp2_with fail
  go_loopw [3, 4] (fun v c wr => ∃ i : Nat, i ≤ s.length ∧ c = .int .i64 i ∧ v = .string (str (quoteB (s.take i))) ∧ w = wr) (fun _ c _ => s.length - (intOf c).toNat)
  case atStart => exact ⟨0, Nat.zero_le _, rfl, rfl, rfl⟩
  case round =>
    obtain ⟨i, hi, rfl, rfl, rfl⟩ := hrel
    have hql := quoteB_len (s.take i)
    rw [List.length_take, Nat.min_eq_left hi] at hql
    by_cases hlt : i < s.length
    · have hst := quoteB_take s i hlt
      have ht1 := take_one s i hlt
      have ht : (s.drop i).take (i + 1 - i) = [s[i]] := by rw [Nat.add_sub_cancel_left]; exact ht1
      obtain ⟨x, hx⟩ : ∃ x, s[i] = x := ⟨_, rfl⟩
      rw [hx] at hst ht ht1
      obtain ⟨L, hL⟩ : ∃ L, quoteB (s.take i) = L := ⟨_, rfl⟩
      have hLl : L.length ≤ 2 * s.length + 1 := by rw [← hL]; omega
      have HS : Hid (quoteB (s.take (i + 1)) = L ++ quoteC x) := by show _ = _; rw [hst, ← hL]
      rw [hL]
      clear hst hL hql
      have hxl : x.toNat < 256 := x.toNat_lt
      by_cases h1 : x.toNat = 34
      · have t1 : (((x.toNat : Nat) : Int) == 34) = true := by simp [h1]
        have HQ : Hid (quoteC x = [92, 34]) := by show _ = _; unfold quoteC; rw [if_pos h1]
        go_wp2_with fail
        go_roundw
        case rel => exact ⟨i + 1, by omega, by go_num, by rw [HS.out, HQ.out]; rfl, by first | rfl | trivial⟩
        case measure => simp [intOf]; omega
      · have t1 : (((x.toNat : Nat) : Int) == 34) = false := by simp; omega
        by_cases h2 : x.toNat = 92
        · have t2 : (((x.toNat : Nat) : Int) == 92) = true := by simp [h2]
          have HQ : Hid (quoteC x = [92, 92]) := by show _ = _; unfold quoteC; rw [if_neg h1, if_pos h2]
          go_wp2_with fail
          go_roundw
          case rel => exact ⟨i + 1, by omega, by go_num, by rw [HS.out, HQ.out]; rfl, by first | rfl | trivial⟩
          case measure => simp [intOf]; omega
        · have t2 : (((x.toNat : Nat) : Int) == 92) = false := by simp; omega
          by_cases h3 : x.toNat = 10
          · have t3 : (((x.toNat : Nat) : Int) == 10) = true := by simp [h3]
            have HQ : Hid (quoteC x = [92, 110]) := by show _ = _; unfold quoteC; rw [if_neg h1, if_neg h2, if_pos h3]
            go_wp2_with fail
            go_roundw
            case rel => exact ⟨i + 1, by omega, by go_num, by rw [HS.out, HQ.out]; rfl, by first | rfl | trivial⟩
            case measure => simp [intOf]; omega
          · have t3 : (((x.toNat : Nat) : Int) == 10) = false := by simp; omega
            have HQ : Hid (quoteC x = [x]) := by show _ = _; unfold quoteC; rw [if_neg h1, if_neg h2, if_neg h3]
            go_wp2_with fail
            go_roundw
            case rel => exact ⟨i + 1, by omega, by go_num, by rw [HS.out, HQ.out], by first | rfl | trivial⟩
            case measure => simp [intOf]; omega
    · obtain rfl : i = s.length := by omega
      obtain ⟨L, hL⟩ : ∃ L, quoteB (s.take s.length) = L := ⟨_, rfl⟩
      have hLl : L.length ≤ 2 * s.length + 1 := by rw [← hL]; omega
      have HR' : Hid (R = 34 :: (L ++ [34])) := by show _ = _; rw [← HR.out, ← hL, List.take_length]; rfl
      rw [hL]
      clear hL hql
      go_wp2_with fail
      go_ret
      exact ⟨ret_str HR'.out.symm, rfl⟩
theorem refQuoted_c (s : List UInt8) (w : World) (hs : s.length ≤ 1048576) : Calls Tryd.prog 77 #[.string (str s)] w fun e w' => e = .returned (.tuple #[.string (str (quotedL s).1), .int .i64 ((quotedL s).2 : Nat)]) ∧ w = w' := by
  obtain ⟨V, hV⟩ : ∃ V, (quotedL s).1 = V := ⟨_, rfl⟩
  obtain ⟨M, hM⟩ : ∃ M, (quotedL s).2 = M := ⟨_, rfl⟩
  rw [hV, hM]
  have HR : Hid (quotedL s = (V, M)) := by show _ = _; rw [← hV, ← hM]
  clear hV hM
  by_cases h0 : 0 < s.length
  case neg =>
    obtain rfl : s = [] := List.eq_nil_of_length_eq_zero (by omega)
    have := HR.out
    simp only [quotedL, Prod.mk.injEq] at this
    obtain ⟨rfl, rfl⟩ := this
    go_enter Tryd.func77, Tryd.ntmps77
    go_wp2_with fail
    go_ret2
    exact ⟨rfl, rfl⟩
  have h00 : ((s.length : Int) == 0) = false := by rw [beq_eq_false_iff_ne]; omega
  by_cases hc : (s[0]).toNat = 34
  case neg =>
    have e := quotedL_not h0 hc
    rw [HR.out] at e
    simp only [Prod.mk.injEq] at e
    obtain ⟨rfl, rfl⟩ := e
    obtain ⟨x, hx⟩ : ∃ x, s[0] = x := ⟨_, rfl⟩
    rw [hx] at hc
    have t1 : (((x.toNat : Nat) : Int) == 34) = false := by simp; omega
    have t2 : (((x.toNat : Nat) : Int) != 34) = true := by simp [bne, t1]
    clear hc HR
    go_enter Tryd.func77, Tryd.ntmps77
    go_wp2_with fail
    go_ret2
    exact ⟨rfl, rfl⟩
  have HC := Lib.hid hc
  obtain ⟨x0, hx0⟩ : ∃ x, s[0] = x := ⟨_, rfl⟩
  have hx0' : x0.toNat = 34 := by rw [← hx0]; exact hc
  have t2 : (((x0.toNat : Nat) : Int) != 34) = false := by simp [bne, hx0']
  clear hc hx0'
  go_enter Tryd.func77, Tryd.ntmps77
  go_wp2_with fail
  go_loopw [4, 5] (fun v c wr => ∃ (i : Nat) (acc : List UInt8), i ≤ s.length ∧ c = .int .i64 i ∧ v = .string (str acc) ∧ acc.length ≤ i ∧ Hid (scan (s.drop 1) = pre acc (scan (s.drop i))) ∧ w = wr) (fun _ c _ => s.length - (intOf c).toNat)
  case atStart => exact ⟨1, [], by omega, rfl, rfl, by simp, by show _ = _; rw [pre_nil], rfl⟩
  case round =>
    obtain ⟨i, acc, hi, rfl, rfl, hal, HI, rfl⟩ := hrel
    by_cases hlt : i < s.length
    · have ht1 := take_one s i hlt
      have ht : (s.drop i).take (i + 1 - i) = [s[i]] := by rw [Nat.add_sub_cancel_left]; exact ht1
      have e34 := fun h => pre_end (acc := acc) hlt h
      have epl := fun h1 h2 => pre_plain (acc := acc) hlt h1 h2
      have ecut := fun he h2 => pre_cut (s := s) (acc := acc) (i := i) he h2
      have eesc := fun he h2 => pre_esc (s := s) (acc := acc) (i := i) he h2
      have E34 := Lib.hid e34
      have EPL := Lib.hid epl
      have ECUT := Lib.hid ecut
      have EESC := Lib.hid eesc
      clear e34 epl ecut eesc
      obtain ⟨x, hx⟩ : ∃ x, s[i] = x := ⟨_, rfl⟩
      rw [hx] at ht ht1 
      have HX := Lib.hid hx
      have hxl : x.toNat < 256 := x.toNat_lt
      by_cases h1 : x.toNat = 34
      · have t1 : (((x.toNat : Nat) : Int) == 34) = true := by simp [h1]
        have e := quotedL_some h0 HC.out (HI.out.trans (E34.out (by rw [HX.out]; exact h1)))
        rw [HR.out] at e
        simp only [Prod.mk.injEq, List.length_drop] at e
        obtain ⟨rfl, hM⟩ := e
        obtain rfl : M = i + 1 := by omega
        clear hM
        go_wp2_with fail
        go_ret2
        exact ⟨by simp, rfl⟩
      · have t1 : (((x.toNat : Nat) : Int) == 34) = false := by simp; omega
        by_cases h2 : x.toNat = 92
        · have t2 : (((x.toNat : Nat) : Int) == 92) = true := by simp [h2]
          by_cases hend : i + 1 = s.length
          · have t3 : (((i : Int) + 1) == (s.length : Int)) = true := by simp; omega
            have e := quotedL_none h0 (HI.out.trans (ECUT.out hend (by rw [HX.out]; exact h2)))
            rw [HR.out] at e
            simp only [Prod.mk.injEq] at e
            obtain ⟨rfl, rfl⟩ := e
            go_wp2_with fail
            go_ret2
            exact ⟨rfl, rfl⟩
          · have t3 : (((i : Int) + 1) == (s.length : Int)) = false := by simp; omega
            have hlt2 : i + 1 < s.length := by omega
            have hu1 := take_one s (i + 1) hlt2
            have hu : (s.drop (i + 1)).take (i + 1 + 1 - (i + 1)) = [s[i + 1]] := by rw [Nat.add_sub_cancel_left]; exact hu1
            have es := EESC.out hlt2 (by rw [HX.out]; exact h2)
            obtain ⟨y, hy⟩ : ∃ y, s[i + 1] = y := ⟨_, rfl⟩
            rw [hy] at hu hu1 es
            have hyl : y.toNat < 256 := y.toNat_lt
            by_cases h3 : y.toNat = 110
            · have t4 : (((y.toNat : Nat) : Int) == 110) = true := by simp [h3]
              rw [if_pos h3] at es
              have ES := Lib.hid (HI.out.trans es)
              clear es hend
              go_wp2_with fail
              go_roundw
              case rel => exact ⟨i + 2, acc ++ [10], by omega, by go_num, rfl, by simp; omega, ES.out, by first | rfl | trivial⟩
              case measure => simp [intOf]; omega
            · have t4 : (((y.toNat : Nat) : Int) == 110) = false := by simp; omega
              rw [if_neg h3] at es
              have ES := Lib.hid (HI.out.trans es)
              clear es hend
              go_wp2_with fail
              go_roundw
              case rel => exact ⟨i + 2, acc ++ [y], by omega, by go_num, rfl, by simp; omega, ES.out, by first | rfl | trivial⟩
              case measure => simp [intOf]; omega
        · have t2 : (((x.toNat : Nat) : Int) == 92) = false := by simp; omega
          have es := HI.out.trans (EPL.out (by rw [HX.out]; exact h1) (by rw [HX.out]; exact h2))
          rw [HX.out] at es
          have ES := Lib.hid es
          clear es
          go_wp2_with fail
          go_roundw
          case rel => exact ⟨i + 1, acc ++ [x], by omega, by go_num, rfl, by simp; omega, ES.out, by first | rfl | trivial⟩
          case measure => simp [intOf]; omega
    · obtain rfl : i = s.length := by omega
      have e := quotedL_none h0 (HI.out.trans pre_none)
      rw [HR.out] at e
      simp only [Prod.mk.injEq] at e
      obtain ⟨rfl, rfl⟩ := e
      go_wp2_with fail
      go_ret2
      exact ⟨rfl, rfl⟩
end Go.Proofs.YtdbifbgjbfnfmaaDoor
/-
  Layer 4 (label): values: what the document's own Value returns; all that was in memory stays.
-/
namespace Go.Proofs.YtdbifbgjbfnfmaaDoor
open Go.RowKit Go.Deep
attribute [local go_sem] str_size str_append str_toList str_get str_extract
set_option linter.unusedVariables false
set_option linter.unusedSimpArgs false
theorem refValue_c (s : List UInt8) (w : World) (hs : s.length ≤ 1099511627776) : Calls Tryd.prog 67 #[.string (str s)] w fun e w' => e = .returned (.bool (valueL s)) ∧ w = w' := by
  by_cases h32 : 32 < (s.length : Int)
  · rw [valueL_long (by omega)]
    go_enter Tryd.func67, Tryd.ntmps67
    go_wp2
    go_ret
    exact ⟨rfl, rfl⟩
  rw [valueL_of (by omega)]
  obtain ⟨R, hR⟩ : ∃ R, utfL s.length s = R := ⟨_, rfl⟩
  rw [hR]
  have HR := Lib.hid hR
  clear hR
  go_enter Tryd.func67, Tryd.ntmps67
  go_wp2_with fail
  go_loopw [0] (fun a wr => ∃ t : List UInt8, a = .string (str t) ∧ t.length ≤ s.length ∧ Hid (utfL t.length t = R) ∧ w = wr) (fun a _ => match a with | .string b => b.size | _ => 0)
  case atStart => exact ⟨s, rfl, Nat.le_refl _, HR.out, rfl⟩
  case round =>
    obtain ⟨t, rfl, hl, HI, rfl⟩ := hrel
    by_cases h0 : t.length = 0
    · obtain rfl : t = [] := List.eq_nil_of_length_eq_zero h0
      have e := HI.out
      rw [utf_nil] at e
      subst e
      go_wp2_with fail
      go_ret
      exact ⟨rfl, rfl⟩
    · have h00 : (0 : Int) < (t.length : Int) := by omega
      have hne : t ≠ [] := fun e => h0 (by rw [e]; rfl)
      have hw := fun W => wide_c t W (by omega) (by omega)
      have hle := wide_le hne
      have hbad := fun h => utf_bad hne h
      have hstep := fun h => utf_step hne h
      obtain ⟨k, hk⟩ : ∃ k, wideL t = k := ⟨_, rfl⟩
      rw [hk] at hw hle hbad hstep
      by_cases hz : k = 0
      · subst hz
        have e := hbad rfl
        rw [HI.out] at e
        subst e
        clear hbad hstep hk hne
        go_wp2_with (go_at_call 97; refine (hw _).mono ?_; rintro e w1 ⟨rfl, rfl⟩)
        go_ret
        exact ⟨rfl, rfl⟩
      · have e := hstep hz
        rw [HI.out] at e
        have HE := Lib.hid e
        have t1 : ((k : Int) == 0) = false := by rw [beq_eq_false_iff_ne]; omega
        have htk : (t.drop k).take (t.length - k) = t.drop k := List.take_of_length_le (by rw [List.length_drop]; omega)
        have hkp : 0 < k := by omega
        clear hbad hstep hk hne e hz h0
        go_wp2_with (go_at_call 97; refine (hw _).mono ?_; rintro e w1 ⟨rfl, rfl⟩)
        go_roundw
        case rel => exact ⟨t.drop k, rfl, by rw [List.length_drop]; omega, HE.out.symm, by first | rfl | trivial⟩
        case measure => simp only [str_size, List.length_drop]; omega
end Go.Proofs.YtdbifbgjbfnfmaaDoor
