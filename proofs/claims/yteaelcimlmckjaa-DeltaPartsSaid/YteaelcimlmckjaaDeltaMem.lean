/-
  Layer 3 (delta): a slice of samples in memory; two of them compared.
-/
import Derived.Test.YteaelcimlmckjaaDeltaPure
import Derived.Test.YteaelcimlmckjaaMem
import Derived.Test.YteaelcimlmckjaaProg
import Derived.Test.YteaelcimlmckjaaZig
import Derived.Deep.Fields
import Derived.Deep.Slices
import Derived.Deep.RegionHeld3
import Derived.Deep.OwnRows
import Derived.Outline
import Derived.BigQuiet
import Derived.Deep.QuietTactic
import Derived.Deep.RegionWith
import Derived.OpenShut
namespace Go.Proofs.Yteaelcimlmckjaa
open Go.RowKit Go.Deep
set_option linter.unusedVariables false
set_option linter.unusedSimpArgs false

/-- A slice of samples that was there. -/
def SAt (w : World) (A : Option Addr) (len : Nat) (l : List Smp) : Prop :=
  len = l.length ∧ ∀ i (h : i < l.length), (-9223372036854775808 ≤ l[i].1 ∧ l[i].1 ≤ 9223372036854775807 ∧ -9223372036854775808 ≤ l[i].2 ∧ l[i].2 ≤ 9223372036854775807) ∧
    ∃ ad, A = some ad ∧ (ad.add (i * 2)).block < w.heap.size ∧ w.cell? (ad.add (i * 2)) = some (.int .i64 l[i].1) ∧ w.cell? ⟨(ad.add (i * 2)).block, (ad.add (i * 2)).off + 1, none⟩ = some (.int .i64 l[i].2)
theorem SAt.below {w w' : World} {A : Option Addr} {len : Nat} {l : List Smp} (h : SAt w A len l) (hb : Below w.heap.size w w') : SAt w' A len l :=
  ⟨h.1, fun i hi => by
    obtain ⟨h1, ad, rfl, h2, h3, h4⟩ := h.2 i hi
    exact ⟨h1, ad, rfl, Nat.lt_of_lt_of_le h2 hb.size, (hb.cell (p := ad.add (i * 2)) h2).trans h3, (hb.cell (p := ⟨(ad.add (i * 2)).block, (ad.add (i * 2)).off + 1, none⟩) h2).trans h4⟩⟩
theorem SAt.drew {w : World} {A : Option Addr} {len : Nat} {l : List Smp} (h : SAt w A len l) : SAt w.drew A len l := h
theorem SAt.drewN {w : World} {A : Option Addr} {len : Nat} {l : List Smp} (h : SAt w A len l) (n : Nat) : SAt (w.drewN n) A len l := h
theorem SAt.nil (w : World) (A : Option Addr) : SAt w A 0 [] := ⟨rfl, fun i h => by simp at h⟩
theorem smp_cells : Try.prog.cellsOf 34 = 2 := by kernel_rfl
theorem add_nought (a : Addr) : a.add (0 * 2) = a := by rcases a with ⟨b, o, p⟩; cases p <;> rfl
theorem ret_se {l m : List UInt8} {a b : Int} (h : (l, a) = (m, b)) : Ending.returned (.tuple #[.string (str l), .int .i64 a]) = .returned (.tuple #[.string (str m), .int .i64 b]) := by
  injection h with h1 h2; rw [h1, h2]
theorem same_c (A A' : Option Addr) (len len' cap cap' : Nat) (l m : List Smp) (w : World) (hl : l.length ≤ 100000) (hm : m.length ≤ 100000) (hA : SAt w A len l) (hB : SAt w A' len' m) :
    Calls Try.prog 12 #[.slice A len cap, .slice A' len' cap'] w fun e w' => e = .returned (.bool (decide (l = m))) ∧ Below w.heap.size w w' := by
  have hle := hA.1
  have hme := hB.1
  subst hle hme
  by_cases hlen : l.length = m.length
  · obtain ⟨r, hr⟩ : ∃ r, decide (l = m) = r := ⟨_, rfl⟩
    rw [hr]
    have HR := Lib.hid hr
    clear hr
    go_enter Try.func12, Try.ntmps12
    go_wp2_with fail
    go_loopw [5] (fun c wr => ∃ i : Nat, i ≤ l.length ∧ c = .int .i64 i ∧ Hid (l.take i = m.take i) ∧ Below w.heap.size w wr) (fun c _ => l.length - (intOf c).toNat)
    case atStart => exact ⟨0, Nat.zero_le _, rfl, rfl, Below.refl _ _⟩
    case round =>
      obtain ⟨i, hi, rfl, heq, hb⟩ := hrel
      by_cases hlt : i < l.length
      · obtain ⟨⟨r1, r2, r3, r4⟩, ad, rfl, h2, h3, h4⟩ := (hA.below hb).2 i hlt
        obtain ⟨⟨s1, s2, s3, s4⟩, ad', rfl, k2, k3, k4⟩ := (hB.below hb).2 i (by omega)
        by_cases hq : l[i] = m[i]
        · have h5 : (l[i].1 == m[i].1) = true := by rw [hq]; simp
          have h6 : (l[i].2 == m[i].2) = true := by rw [hq]; simp
          have HQ := Lib.hid hq
          clear hq
          go_wp2_with fail
          go_quiet (fail)
          go_wp2_with fail
          go_roundw
          case rel =>
            refine ⟨i + 1, by omega, by go_num, ?_, below_drewN hb _⟩
            show _ = _
            rw [List.take_succ_eq_append_getElem hlt, List.take_succ_eq_append_getElem (by omega), heq.out, HQ.out]
          case measure => simp [intOf]; omega
        · have he : decide (l = m) = false := by
            apply decide_eq_false
            rintro rfl
            exact hq rfl
          rw [HR.out] at he
          have HE := Lib.hid he
          clear he
          by_cases hq1 : l[i].1 = m[i].1
          · have h5 : (l[i].1 == m[i].1) = true := by simpa using hq1
            have h6 : (l[i].2 == m[i].2) = false := by
              rw [beq_eq_false_iff_ne]
              exact fun h => hq (Prod.ext hq1 h)
            clear hq hq1
            go_wp2_with fail
            go_quiet (fail)
            go_wp2_with fail
            go_ret
            exact ⟨ret_bool HE.out.symm, below_drewN hb _⟩
          · have h5 : (l[i].1 == m[i].1) = false := by rw [beq_eq_false_iff_ne]; exact hq1
            clear hq hq1
            go_wp2_with fail
            go_quiet (fail)
            go_wp2_with fail
            go_ret
            exact ⟨ret_bool HE.out.symm, below_drewN hb _⟩
      · obtain rfl : i = l.length := by omega
        have he : decide (l = m) = true := by
          have h := heq.out
          rw [List.take_length, hlen, List.take_length] at h
          exact decide_eq_true h
        rw [HR.out] at he
        have HE := Lib.hid he
        clear he
        go_wp2_with fail
        go_ret
        exact ⟨ret_bool HE.out.symm, hb⟩
  · have he : decide (l = m) = false := by
      apply decide_eq_false; intro e; exact hlen (by rw [e])
    rw [he]
    go_enter Try.func12, Try.ntmps12
    go_wp2_with fail
    go_ret
    exact ⟨rfl, Below.refl _ _⟩
end Go.Proofs.Yteaelcimlmckjaa
