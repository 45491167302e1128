/-
  Texts of the same seat, one behind the other (merged; each says at its head what it is).
-/
import Derived.Test.YtdbifbgjbfnfmaaGreatDoorM01
import Derived.Laws.RangeAny
/-
  Layer 4 (label): names: what the program's Name, and the document's own, return; all that was in memory stays.
-/
namespace Go.Proofs.YtdbifbgjbfnfmaaGreatDoor
open Go.RowKit Go.Deep
attribute [local go_sem] str_size str_append str_toList str_get str_extract
set_option linter.unusedVariables false
set_option linter.unusedSimpArgs false
theorem lower_c (r : Int) (w : World) (b : Bool) (hb : decide (97 ≤ r ∧ r ≤ 122) = b) : Calls Tryz.prog 57 #[.int .i32 r] w fun e w' => e = .returned (.bool b) ∧ w = w' := by
  by_cases h1 : 97 ≤ r
  · by_cases h2 : r ≤ 122
    · rw [show decide (97 ≤ r ∧ r ≤ 122) = true by simp [h1, h2]] at hb
      subst hb
      go_enter Tryz.func57, Tryz.ntmps57
      go_wp2
      go_ret
      exact ⟨rfl, rfl⟩
    · rw [show decide (97 ≤ r ∧ r ≤ 122) = false by simp [h2]] at hb
      subst hb
      go_enter Tryz.func57, Tryz.ntmps57
      go_wp2
      go_ret
      exact ⟨rfl, rfl⟩
  · rw [show decide (97 ≤ r ∧ r ≤ 122) = false by simp [h1]] at hb
    subst hb
    go_enter Tryz.func57, Tryz.ntmps57
    go_wp2
    go_ret
    exact ⟨rfl, rfl⟩
theorem digit_c (r : Int) (w : World) (b : Bool) (hb : decide (48 ≤ r ∧ r ≤ 57) = b) : Calls Tryz.prog 58 #[.int .i32 r] w fun e w' => e = .returned (.bool b) ∧ w = w' := by
  by_cases h1 : 48 ≤ r
  · by_cases h2 : r ≤ 57
    · rw [show decide (48 ≤ r ∧ r ≤ 57) = true by simp [h1, h2]] at hb
      subst hb
      go_enter Tryz.func58, Tryz.ntmps58
      go_wp2
      go_ret
      exact ⟨rfl, rfl⟩
    · rw [show decide (48 ≤ r ∧ r ≤ 57) = false by simp [h2]] at hb
      subst hb
      go_enter Tryz.func58, Tryz.ntmps58
      go_wp2
      go_ret
      exact ⟨rfl, rfl⟩
  · rw [show decide (48 ≤ r ∧ r ≤ 57) = false by simp [h1]] at hb
    subst hb
    go_enter Tryz.func58, Tryz.ntmps58
    go_wp2
    go_ret
    exact ⟨rfl, rfl⟩
set_option maxHeartbeats 400000 in
theorem name_c (s : List UInt8) (w : World) (hs : s.length ≤ 1099511627776) : Calls Tryz.prog 34 #[.string (str s)] w fun e w' => e = .returned (.bool (nameL s)) ∧ Below w.heap.size w w' := by
  by_cases h0 : s.length = 0
  · obtain rfl : s = [] := List.eq_nil_of_length_eq_zero h0
    rw [show nameL [] = false from rfl]
    go_enter Tryz.func34, Tryz.ntmps34
    go_wp2
    go_ret
    exact ⟨rfl, Below.refl _ _⟩
  have h00 : ((s.length : Int) == 0) = false := by rw [beq_eq_false_iff_ne]; omega
  by_cases h16 : 16 < (s.length : Int)
  · rw [nameL_long (by omega)]
    go_enter Tryz.func34, Tryz.ntmps34
    go_wp2
    go_ret
    exact ⟨rfl, Below.refl _ _⟩
  obtain ⟨R, hR⟩ : ∃ R, nameL s = R := ⟨_, rfl⟩
  rw [hR]
  have HR := Lib.hid hR
  clear hR
  go_enter Tryz.func34, Tryz.ntmps34
  go_wp2_with fail
  go_loopw [] (fun wr => ∃ pos : Nat, pos ≤ s.length ∧ wr = w.iter (str s) pos ∧ Hid (0 < pos → ∃ h : 0 < s.length, lowC s[0] = true) ∧ Hid (∀ i (h : i < s.length), i < pos → nameC s[i] = true)) (fun wr => s.length - wr.iterPos w.heap.size)
  case atStart => exact ⟨0, Nat.zero_le _, rfl, fun h => by omega, fun i h h' => by omega⟩
  case round =>
    obtain ⟨pos, hp, rfl, HL, HA⟩ := hrel
    have hbel : ∀ p, Below w.heap.size w (w.iter (str s) p) := fun p => (Below.refl _ w).alloc (Nat.le_refl _) _
    by_cases hlt : pos < s.length
    · have hlt' : pos < (str s).size := by rw [str_size]; exact hlt
      have hget := str_get s pos hlt'
      have hmeas : ∀ k, (w.iter (str s) k).iterPos w.heap.size = k := fun k => World.iterPos_iter _ _ _
      by_cases hx : (s[pos]'hlt).toNat < 128
      · have hnx := fun ty => run_next_ascii (P := Tryz.prog) w (str s) pos ty hlt' (by rw [hget]; exact hx)
        have Hbad := Lib.hid (fun h => nameL_bad hlt h)
        have Hbad0 := Lib.hid (fun (hc0 : lowC (s[0]'(by omega)) = false) => nameL_bad0 hc0)
        obtain ⟨x, hxe⟩ : ∃ x, s[pos]'hlt = x := ⟨_, rfl⟩
        have HXE := Lib.hid hxe
        rw [hxe] at hx
        have hxe2 : ((str s)[pos]'hlt') = x := hget.trans hxe
        simp only [hxe2] at hnx
        clear hget hxe hxe2
        have hl := fun W => lower_c (x.toNat : Int) W
        have hd := fun W => digit_c (x.toNat : Int) W
        have hstep : lowC x = true ∨ (0 < pos ∧ nameC x = true) → Hid (0 < pos + 1 → ∃ h : 0 < s.length, lowC s[0] = true) ∧ Hid (∀ i (h : i < s.length), i < pos + 1 → nameC s[i] = true) := by
          intro hh
          refine ⟨fun _ => ?_, fun i h h' => ?_⟩
          · by_cases hz : 0 < pos
            · exact HL.out hz
            · refine ⟨by omega, ?_⟩
              have e : pos = 0 := by omega
              subst e
              rcases hh with hh | hh
              · rw [HXE.out]; exact hh
              · omega
          · by_cases he : i = pos
            · subst he
              rw [HXE.out]
              rcases hh with hh | hh
              · exact lowC_nameC hh
              · exact hh.2
            · exact HA.out i h (by omega)
        by_cases l1 : 97 ≤ x.toNat ∧ x.toNat ≤ 122
        · have hst := hstep (.inl (by unfold lowC; simpa using l1))
          have HST := Lib.hid hst
          have hl' := fun W => hl W true (by simp; omega)
          clear hl hstep hst
          go_wp2_with (first | (go_at_call 57; refine (hl' _).mono ?_; rintro e w1 ⟨rfl, rfl⟩))
          go_roundw
          case rel => exact ⟨pos + 1, by omega, rfl, HST.out⟩
          case measure => rw [hmeas, hmeas]; omega
        · have hl' := fun W => hl W false (by simp; omega)
          have hlow : lowC x = false := by unfold lowC; simp; omega
          by_cases hz : pos = 0
          · subst hz
            have e : nameL s = false := Hbad0.out (by rw [HXE.out]; exact hlow)
            rw [HR.out] at e
            subst e
            clear hl hd hstep hlow
            go_wp2_with (first | (go_at_call 57; refine (hl' _).mono ?_; rintro e w1 ⟨rfl, rfl⟩))
            go_ret
            exact ⟨rfl, hbel _⟩
          · have hz' : ((pos : Int) == 0) = false := by rw [beq_eq_false_iff_ne]; omega
            by_cases d1 : 48 ≤ x.toNat ∧ x.toNat ≤ 57
            · have hst := hstep (.inr ⟨by omega, by unfold nameC; simp; omega⟩)
              have HST := Lib.hid hst
              have hd' := fun W => hd W true (by simp; omega)
              clear hl hd hstep hst hlow
              go_wp2_with (first | (go_at_call 57; refine (hl' _).mono ?_; rintro e w1 ⟨rfl, rfl⟩) | (go_at_call 58; refine (hd' _).mono ?_; rintro e w1 ⟨rfl, rfl⟩))
              go_roundw
              case rel => exact ⟨pos + 1, by omega, rfl, HST.out⟩
              case measure => rw [hmeas, hmeas]; omega
            · have hd' := fun W => hd W false (by simp; omega)
              by_cases u1 : x.toNat = 95
              · have u2 : (((x.toNat : Nat) : Int) != 95) = false := by simp [bne, u1]
                have hst := hstep (.inr ⟨by omega, by unfold nameC; simp; omega⟩)
                have HST := Lib.hid hst
                clear hl hd hstep hst hlow
                go_wp2_with (first | (go_at_call 57; refine (lower_c 95 _ false (by decide)).mono ?_; rintro e w1 ⟨rfl, rfl⟩) | (go_at_call 58; refine (digit_c 95 _ false (by decide)).mono ?_; rintro e w1 ⟨rfl, rfl⟩))
                go_roundw
                case rel => exact ⟨pos + 1, by omega, rfl, HST.out⟩
                case measure => rw [hmeas, hmeas]; omega
              · have u2 : (((x.toNat : Nat) : Int) != 95) = true := by
                  have : (((x.toNat : Nat) : Int) == 95) = false := by rw [beq_eq_false_iff_ne]; omega
                  simp [bne, this]
                have e : nameL s = false := Hbad.out (by rw [HXE.out]; unfold nameC; simp; omega)
                rw [HR.out] at e
                subst e
                clear hl hd hstep hlow
                go_wp2_with (first | (go_at_call 57; refine (hl' _).mono ?_; rintro e w1 ⟨rfl, rfl⟩) | (go_at_call 58; refine (hd' _).mono ?_; rintro e w1 ⟨rfl, rfl⟩))
                go_ret
                exact ⟨rfl, hbel _⟩
      · have hnx := fun ty => run_next_any (P := Tryz.prog) w (str s) pos ty hlt'
        obtain ⟨q1, q2⟩ := decode_high (str s) pos hlt' (by rw [hget]; omega)
        have q3 := decode_le (str s) pos
        have e : nameL s = false := nameL_bad hlt (by unfold nameC; simp; omega)
        have e0 : pos = 0 → nameL s = false := fun _ => e
        rw [HR.out] at e
        subst e
        obtain ⟨r, hr⟩ : ∃ r, (Utf8.decode (str s) pos).1 = r := ⟨_, rfl⟩
        obtain ⟨k, hk⟩ : ∃ k, (Utf8.decode (str s) pos).2 = k := ⟨_, rfl⟩
        rw [hr] at hnx q1 q3
        rw [hk] at hnx q2
        have hl' := fun W => lower_c (r : Int) W false (by simp; omega)
        have hd' := fun W => digit_c (r : Int) W false (by simp; omega)
        have u2 : ((r : Int) != 95) = true := by
          have : ((r : Int) == 95) = false := by rw [beq_eq_false_iff_ne]; omega
          simp [bne, this]
        clear hget hx hr hk e0
        by_cases hz : pos = 0
        · subst hz
          go_wp2_with (first | (go_at_call 57; refine (hl' _).mono ?_; rintro e w1 ⟨rfl, rfl⟩) | (go_at_call 58; refine (hd' _).mono ?_; rintro e w1 ⟨rfl, rfl⟩))
          go_ret
          exact ⟨rfl, hbel _⟩
        · have hz' : ((pos : Int) == 0) = false := by rw [beq_eq_false_iff_ne]; omega
          go_wp2_with (first | (go_at_call 57; refine (hl' _).mono ?_; rintro e w1 ⟨rfl, rfl⟩) | (go_at_call 58; refine (hd' _).mono ?_; rintro e w1 ⟨rfl, rfl⟩))
          go_ret
          exact ⟨rfl, hbel _⟩
    · obtain rfl : pos = s.length := by omega
      have hnx := fun ty => run_next_end (P := Tryz.prog) w (str s) s.length ty (by rw [str_size]; omega)
      have e : nameL s = true := nameL_good (by omega) (by omega) (HL.out (by omega)).2 (fun i h => HA.out i h h)
      rw [HR.out] at e
      subst e
      go_wp2_with fail
      go_ret
      exact ⟨rfl, hbel _⟩
theorem refName_c (s : List UInt8) (w : World) (hs : s.length ≤ 1099511627776) : Calls Tryz.prog 46 #[.string (str s)] w fun e w' => e = .returned (.bool (nameL s)) ∧ w = w' := by
  by_cases h0 : s.length = 0
  · obtain rfl : s = [] := List.eq_nil_of_length_eq_zero h0
    rw [show nameL [] = false from rfl]
    go_enter Tryz.func46, Tryz.ntmps46
    go_wp2
    go_ret
    exact ⟨rfl, rfl⟩
  have h00 : ¬ ((s.length : Int) < 1) := by omega
  by_cases h16 : 16 < (s.length : Int)
  · rw [nameL_long (by omega)]
    go_enter Tryz.func46, Tryz.ntmps46
    go_wp2
    go_ret
    exact ⟨rfl, rfl⟩
  have hp0 : 0 < s.length := by omega
  have Hbad0 := Lib.hid (fun (hc0 : lowC (s[0]'hp0) = false) => nameL_bad0 hc0)
  have Hbad := Lib.hid (fun i (h : i < s.length) (hc : nameC (s[i]'h) = false) => nameL_bad h hc)
  obtain ⟨R, hR⟩ : ∃ R, nameL s = R := ⟨_, rfl⟩
  rw [hR]
  have HR := Lib.hid hR
  clear hR
  obtain ⟨x0, hx0⟩ : ∃ x, s[0]'hp0 = x := ⟨_, rfl⟩
  have HX0 := Lib.hid hx0
  have hx0l : x0.toNat < 256 := x0.toNat_lt
  by_cases l1 : x0.toNat < 97
  · have t1 : (x0.toNat : Int) < 97 := by omega
    have e : nameL s = false := Hbad0.out (by rw [HX0.out]; unfold lowC; simp; omega)
    rw [HR.out] at e
    subst e
    go_enter Tryz.func46, Tryz.ntmps46
    go_wp2
    go_ret
    exact ⟨rfl, rfl⟩
  have t1 : ¬ (x0.toNat : Int) < 97 := by omega
  by_cases l2 : 122 < x0.toNat
  · have t2 : 122 < (x0.toNat : Int) := by omega
    have e : nameL s = false := Hbad0.out (by rw [HX0.out]; unfold lowC; simp; omega)
    rw [HR.out] at e
    subst e
    go_enter Tryz.func46, Tryz.ntmps46
    go_wp2
    go_ret
    exact ⟨rfl, rfl⟩
  have t2 : ¬ 122 < (x0.toNat : Int) := by omega
  have HL : Hid (lowC (s[0]'hp0) = true) := by show _ = _; rw [HX0.out]; unfold lowC; simp; omega
  go_enter Tryz.func46, Tryz.ntmps46
  go_wp2_with fail
  go_loopw [3] (fun c wr => ∃ pos : Nat, pos ≤ s.length ∧ c = .int .i64 pos ∧ Hid (∀ i (h : i < s.length), i < pos → nameC (s[i]'h) = true) ∧ w = wr) (fun c _ => s.length - (intOf c).toNat)
  case atStart => exact ⟨0, Nat.zero_le _, rfl, fun i h h' => by omega, rfl⟩
  case round =>
    obtain ⟨pos, hp, rfl, HA, rfl⟩ := hrel
    clear t1 t2 l1 l2
    by_cases hlt : pos < s.length
    · obtain ⟨x, hxe⟩ : ∃ x, s[pos]'hlt = x := ⟨_, rfl⟩
      have HXE := Lib.hid hxe
      have hxl : x.toNat < 256 := x.toNat_lt
      have hstep : nameC x = true → Hid (∀ i (h : i < s.length), i < pos + 1 → nameC (s[i]'h) = true) := by
        intro hh i h h'
        by_cases he : i = pos
        · subst he
          rw [HXE.out]; exact hh
        · exact HA.out i h (by omega)
      have HS := Lib.hid hstep
      have HB := Lib.hid (fun h => Hbad.out pos hlt h)
      clear hstep hx0
      by_cases a1 : x.toNat < 97
      · have t1 : (x.toNat : Int) < 97 := by omega
        by_cases a2 : x.toNat < 48
        · have t2 : (x.toNat : Int) < 48 := by omega
          have t3 : (((x.toNat : Nat) : Int) != 95) = true := by
            have : (((x.toNat : Nat) : Int) == 95) = false := by rw [beq_eq_false_iff_ne]; omega
            simp [bne, this]
          have e : nameL s = false := HB.out (by rw [HXE.out]; unfold nameC; simp; omega)
          rw [HR.out] at e
          subst e
          go_wp2_with fail
          go_ret
          exact ⟨rfl, rfl⟩
        · have t2 : ¬ (x.toNat : Int) < 48 := by omega
          by_cases a3 : 57 < x.toNat
          · have t3 : 57 < (x.toNat : Int) := by omega
            by_cases a4 : x.toNat = 95
            · have h := HS.out (by unfold nameC; simp; omega)
              have HH := Lib.hid h
              have t4 : (((x.toNat : Nat) : Int) != 95) = false := by simp [bne, a4]
              clear h
              go_wp2_with fail
              go_roundw
              case rel => exact ⟨pos + 1, by omega, by go_num, HH.out, by first | rfl | trivial⟩
              case measure => simp [intOf]; omega
            · have t4 : (((x.toNat : Nat) : Int) != 95) = true := by
                have : (((x.toNat : Nat) : Int) == 95) = false := by rw [beq_eq_false_iff_ne]; omega
                simp [bne, this]
              have e : nameL s = false := HB.out (by rw [HXE.out]; unfold nameC; simp; omega)
              rw [HR.out] at e
              subst e
              go_wp2_with fail
              go_ret
              exact ⟨rfl, rfl⟩
          · have t3 : ¬ 57 < (x.toNat : Int) := by omega
            have h := HS.out (by unfold nameC; simp; omega)
            have HH := Lib.hid h
            clear h
            go_wp2_with fail
            go_roundw
            case rel => exact ⟨pos + 1, by omega, by go_num, HH.out, by first | rfl | trivial⟩
            case measure => simp [intOf]; omega
      · have t1 : ¬ (x.toNat : Int) < 97 := by omega
        by_cases a2 : 122 < x.toNat
        · have t2 : 122 < (x.toNat : Int) := by omega
          have t3 : ¬ (x.toNat : Int) < 48 := by omega
          have t4 : 57 < (x.toNat : Int) := by omega
          have t5 : (((x.toNat : Nat) : Int) != 95) = true := by
            have : (((x.toNat : Nat) : Int) == 95) = false := by rw [beq_eq_false_iff_ne]; omega
            simp [bne, this]
          have e : nameL s = false := HB.out (by rw [HXE.out]; unfold nameC; simp; omega)
          rw [HR.out] at e
          subst e
          go_wp2_with fail
          go_ret
          exact ⟨rfl, rfl⟩
        · have t2 : ¬ 122 < (x.toNat : Int) := by omega
          have h := HS.out (by unfold nameC; simp; omega)
          have HH := Lib.hid h
          clear h
          go_wp2_with fail
          go_roundw
          case rel => exact ⟨pos + 1, by omega, by go_num, HH.out, by first | rfl | trivial⟩
          case measure => simp [intOf]; omega
    · obtain rfl : pos = s.length := by omega
      have e : nameL s = true := nameL_good hp0 (by omega) HL.out (fun i h => HA.out i h h)
      rw [HR.out] at e
      subst e
      go_wp2_with fail
      go_ret
      exact ⟨rfl, rfl⟩
end Go.Proofs.YtdbifbgjbfnfmaaGreatDoor
