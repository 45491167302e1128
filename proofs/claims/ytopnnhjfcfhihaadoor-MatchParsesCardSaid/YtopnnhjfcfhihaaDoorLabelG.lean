/-
  Layer 4 (label): what Get returns, the program's and the document's; all that was in memory stays.
-/
import Derived.Test.YtopnnhjfcfhihaaDoorLabelMem
import Derived.Test.YtopnnhjfcfhihaaDoorLabelForm
namespace Go.Proofs.YtopnnhjfcfhihaaDoor
open Go.RowKit Go.Deep
attribute [local go_sem] str_size str_append str_toList str_get str_extract
set_option linter.unusedVariables false
set_option linter.unusedSimpArgs false
theorem lclone_c (l : List UInt8) (w : World) (h : l.length ≤ 281474976710656) : Calls Tryd.prog 42 #[.string (str l)] w fun e w' => e = .returned (.string (str l)) ∧ Below w.heap.size w w' := by
  go_enter Tryd.func42, Tryd.ntmps42
  go_wp2_with fail
  refine (Tryd.stringslite_Clone (str l) _ (by rw [str_size]; exact h)).mono ?_
  rintro e w' ⟨rfl, hb⟩
  go_wp2_with fail
  go_ret
  exact ⟨rfl, hb⟩
set_option maxHeartbeats 1000000 in
theorem get_c (A : Option Addr) (len cap : Nat) (l : List Lab) (m : List UInt8) (w : World) (hl : len ≤ 140737488355328) (hA : LAt w A len l) (hz : ∀ x ∈ l, x.1.length ≤ 4096 ∧ x.2.length ≤ 4096) :
    Calls Tryd.prog 24 #[.slice A len cap, .string (str m)] w fun e w' => e = .returned (.string (str (getL l m))) ∧ Below w.heap.size w w' := by
  have hle := hA.1
  subst hle
  obtain ⟨R, hR⟩ : ∃ R, getL l m = R := ⟨_, rfl⟩
  rw [hR]
  have HR := Lib.hid hR
  clear hR
  go_enter Tryd.func24, Tryd.ntmps24
  go_wp2_with fail
  go_loopw [9] (fun c wr => ∃ i : Nat, i ≤ l.length ∧ c = .int .i64 i ∧ Hid (getL (l.drop i) m = R) ∧ Below w.heap.size w wr) (fun c _ => l.length - (intOf c).toNat)
  case atStart => exact ⟨0, Nat.zero_le _, rfl, HR.out, Below.refl _ _⟩
  case round =>
    obtain ⟨i, hi, rfl, HI, hb⟩ := hrel
    have hsz := hb.size
    by_cases hlt : i < l.length
    · obtain ⟨-, ad, rfl, h2, h3, h4⟩ := (hA.below hb).2 i hlt
      have hhere := fun e => getL_here (n := m) hlt e
      have hfar := fun e => getL_far (n := m) hlt e
      obtain ⟨z1, z2⟩ := hz _ (List.getElem_mem hlt)
      obtain ⟨x, hx⟩ : ∃ x, l[i]'hlt = x := ⟨_, rfl⟩
      rw [hx] at hhere hfar h3 h4 z1 z2
      obtain ⟨n, v⟩ := x
      simp only at hhere hfar h3 h4 z1 z2
      have hba : Below w.heap.size w (wr.alloc (.cells #[.string (str n), .string (str v)] 40)) := hb.alloc hsz _
      have hsa : w.heap.size ≤ (wr.alloc (.cells #[.string (str n), .string (str v)] 40)).heap.size := by simp; omega
      by_cases hn : n = m
      · have t1 : (n == m) = true := by simpa using hn
        have e := hhere hn
        rw [HI.out] at e
        subst e
        have c1 := fun W => lclone_c R W (by omega)
        clear hhere hfar hn hx
        go_wp2_with (go_at_call 42; refine (c1 _).mono ?_; rintro e w2 ⟨rfl, hb2⟩)
        go_ret
        exact ⟨rfl, hba.trans (hb2.mono hsa)⟩
      · have t1 : (n == m) = false := by rw [beq_eq_false_iff_ne]; exact hn
        have e := hfar hn
        rw [HI.out] at e
        have HE := Lib.hid e
        clear hhere hfar hn hx e
        go_wp2_with fail
        go_roundw
        case rel => exact ⟨i + 1, by omega, by go_num, HE.out.symm, hba⟩
        case measure => simp [intOf]; omega
    · obtain rfl : i = l.length := by omega
      have e := HI.out
      rw [getL_end] at e
      subst e
      go_wp2_with fail
      go_ret
      exact ⟨rfl, hb⟩
set_option maxHeartbeats 1000000 in
theorem refGet_c (A : Option Addr) (len cap : Nat) (l : List Lab) (m : List UInt8) (w : World) (hl : len ≤ 140737488355328) (hA : LAt w A len l) (hz : ∀ x ∈ l, x.1.length ≤ 4096 ∧ x.2.length ≤ 4096) :
    Calls Tryd.prog 25 #[.slice A len cap, .string (str m)] w fun e w' => e = .returned (.string (str (getL l m))) ∧ w = w' := by
  have hle := hA.1
  subst hle
  obtain ⟨R, hR⟩ : ∃ R, getL l m = R := ⟨_, rfl⟩
  rw [hR]
  have HR := Lib.hid hR
  clear hR
  go_enter Tryd.func25, Tryd.ntmps25
  go_wp2_with fail
  go_loopw [5] (fun c wr => ∃ i : Nat, i ≤ l.length ∧ c = .int .i64 i ∧ Hid (getL (l.drop i) m = R) ∧ w = wr) (fun c _ => l.length - (intOf c).toNat)
  case atStart => exact ⟨0, Nat.zero_le _, rfl, HR.out, rfl⟩
  case round =>
    obtain ⟨i, hi, rfl, HI, rfl⟩ := hrel
    by_cases hlt : i < l.length
    · obtain ⟨-, ad, rfl, h2, h3, h4⟩ := hA.2 i hlt
      have hhere := fun e => getL_here (n := m) hlt e
      have hfar := fun e => getL_far (n := m) hlt e
      obtain ⟨z1, z2⟩ := hz _ (List.getElem_mem hlt)
      obtain ⟨x, hx⟩ : ∃ x, l[i]'hlt = x := ⟨_, rfl⟩
      rw [hx] at hhere hfar h3 h4 z1 z2
      obtain ⟨n, v⟩ := x
      simp only at hhere hfar h3 h4 z1 z2
      by_cases hn : n = m
      · have t1 : (n == m) = true := by simpa using hn
        have e := hhere hn
        rw [HI.out] at e
        subst e
        clear hhere hfar hn hx
        go_wp2_with fail
        go_ret
        exact ⟨rfl, rfl⟩
      · have t1 : (n == m) = false := by rw [beq_eq_false_iff_ne]; exact hn
        have e := hfar hn
        rw [HI.out] at e
        have HE := Lib.hid e
        clear hhere hfar hn hx e
        go_wp2_with fail
        go_roundw
        case rel => exact ⟨i + 1, by omega, by go_num, HE.out.symm, by first | rfl | trivial⟩
        case measure => simp [intOf]; omega
    · obtain rfl : i = l.length := by omega
      have e := HI.out
      rw [getL_end] at e
      subst e
      go_wp2_with fail
      go_ret
      exact ⟨rfl, rfl⟩
end Go.Proofs.YtopnnhjfcfhihaaDoor
