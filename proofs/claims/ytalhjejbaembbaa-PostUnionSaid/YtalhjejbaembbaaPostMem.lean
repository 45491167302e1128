/-
  Layer 6 (post): a slice of integers in memory; the functions that only read one.
-/
import Derived.Test.YtalhjejbaembbaaPostPure
import Derived.Test.YtalhjejbaembbaaMem
import Derived.Test.YtalhjejbaembbaaProg
import Derived.Test.YtalhjejbaembbaaShelf
import Derived.Deep.Fields
import Derived.Deep.Slices
import Derived.Deep.RegionHeld3
import Derived.Deep.OwnRows
import Derived.Outline
import Derived.BigQuiet
import Derived.Deep.QuietTactic
import Derived.Deep.RegionWith
import Derived.OpenShut
import Derived.Deep.Onto
import Derived.Lib.Hide
import Derived.IntWalk
import Derived.BigRegion
import Derived.Deep.AppendLies
import Derived.RegionTactic
namespace Go.Proofs.Ytalhjejbaembbaa
open Go.RowKit Go.Deep
set_option linter.unusedVariables false
set_option linter.unusedSimpArgs false

/-- A slice of integers that was there. -/
def IAt (w : World) (A : Option Addr) (len cap : Nat) (l : List Int) : Prop :=
  len = l.length ∧ len ≤ cap ∧ ∀ i (h : i < l.length), (-9223372036854775808 ≤ l[i] ∧ l[i] ≤ 9223372036854775807) ∧
    ∃ ad, A = some ad ∧ (ad.add i).block < w.heap.size ∧ w.cell? (ad.add i) = some (.int .i64 l[i])
theorem IAt.below {w w' : World} {A : Option Addr} {len cap : Nat} {l : List Int} (h : IAt w A len cap l) (hb : Below w.heap.size w w') : IAt w' A len cap l :=
  ⟨h.1, h.2.1, fun i hi => by
    obtain ⟨h1, ad, rfl, h2, h3⟩ := h.2.2 i hi
    exact ⟨h1, ad, rfl, Nat.lt_of_lt_of_le h2 hb.size, (hb.cell (p := ad.add i) h2).trans h3⟩⟩
theorem IAt.nil (w : World) (A : Option Addr) (cap : Nat) : IAt w A 0 cap [] := ⟨rfl, Nat.zero_le _, fun i h => by simp at h⟩
theorem IAt.drewN {w : World} {A : Option Addr} {len cap : Nat} {l : List Int} (h : IAt w A len cap l) (n : Nat) : IAt (w.drewN n) A len cap l := h
theorem add_succ (a : Addr) (i : Nat) : a.add (i + 1) = ⟨a.block, a.off + (i + 1), none⟩ := rfl
/-- What is left of it behind its first one. -/
theorem IAt.tail {w : World} {ad : Addr} {n cap : Nat} {x : Int} {l : List Int} (h : IAt w (some ad) (n + 1) (cap + 1) (x :: l)) : IAt w (some (ad.add 1)) n cap l := by
  refine ⟨by have := h.1; simp at this; omega, by have := h.2.1; omega, fun i hi => ?_⟩
  obtain ⟨h1, ad', e, h2, h3⟩ := h.2.2 (i + 1) (by simp; omega)
  injection e with e
  subst e
  have ea : (ad.add 1).add i = ad.add (i + 1) := by
    cases i with
    | zero => rfl
    | succ i => simp [Addr.add]; omega
  refine ⟨by simpa using h1, _, rfl, ?_, ?_⟩
  · rw [ea]; exact h2
  · rw [ea]; simpa using h3
/-! a row of the call's own -/
def intC (l : List Int) : List Value := l.map (.int .i64)
theorem intC_append (l m : List Int) : intC (l ++ m) = intC l ++ intC m := by simp [intC]
structure NewI (B : Nat) (v : Value) (l : List Int) (w : World) : Prop where
  own : w.ownsRow B 3 1 v l.length (intC l)
  rng : ∀ x ∈ l, -9223372036854775808 ≤ x ∧ x ≤ 9223372036854775807
theorem NewI.alloc {B : Nat} {v : Value} {l : List Int} {w : World} (h : NewI B v l w) (o : Obj) : NewI B v l (w.alloc o) := ⟨h.own.alloc o, h.rng⟩
theorem NewI.keeps {B : Nat} {v : Value} {l : List Int} {F : List Nat} {w w' : World} (h : NewI B v l w) (hk : Keeps F w w') (hF : ∀ k, v.ownBlock = some k → k ∉ F) : NewI B v l w' := ⟨hk.row h.own hF, h.rng⟩
theorem NewI.below {B : Nat} {v : Value} {l : List Int} {w w' : World} (h : NewI B v l w) (hb : Below w.heap.size w w') : NewI B v l w' := h.keeps (F := []) (Keeps.below hb) (by simp)
theorem NewI.mono {B B' : Nat} {v : Value} {l : List Int} {w : World} (h : NewI B v l w) (hb : B' ≤ B) : NewI B' v l w := ⟨h.own.mono hb, h.rng⟩
theorem NewI.drewN {B : Nat} {v : Value} {l : List Int} {w : World} (h : NewI B v l w) (n : Nat) : NewI B v l (w.drewN n) := ⟨h.own, h.rng⟩
theorem NewI.nil (B : Nat) (w : World) : NewI B (.slice none 0 0) [] w := ⟨⟨rfl, .inl ⟨rfl, rfl⟩⟩, by simp⟩
/-- Its shape, and what it is to others. -/
theorem NewI.at {B : Nat} {v : Value} {l : List Int} {w : World} (h : NewI B v l w) : ∃ A cap, v = .slice A l.length cap ∧ IAt w A l.length cap l := by
  rcases h.own.2 with ⟨e, h0⟩ | ⟨g, c, cur, e, hg, hb, hc, _⟩
  · have : l = [] := List.length_eq_zero_iff.1 h0
    subst this
    exact ⟨none, 0, e, IAt.nil _ _ _⟩
  · refine ⟨_, _, e, rfl, hc, fun i hi => ⟨h.rng _ (List.getElem_mem hi), _, rfl, ?_, ?_⟩⟩
    · show ((⟨g, 0, none⟩ : Addr).add i).block < _
      have : ((⟨g, 0, none⟩ : Addr).add i).block = g := by unfold Addr.add; split <;> rfl
      rw [this]; exact lt_of_block hb
    · subst e
      have := h.own.cells (g := g) rfl i (.int .i64 l[i]) (by simp [intC, hi])
      exact this
theorem int_info : (Try.prog.info? 3).map (fun i => (i.zero, i.size, i.bytes)) = some (some (.int .i64 0), 1, 8) := by kernel_rfl
theorem IAt.congr {w : World} {A : Option Addr} {len cap : Nat} {l m : List Int} (h : IAt w A len cap l) (e : l = m) : IAt w A len cap m := e ▸ h
theorem refHas_c (A : Option Addr) (len cap : Nat) (l : List Int) (n : Int) (w : World) (hl : len ≤ 9223372036854775807) (hA : IAt w A len cap l) :
    Calls Try.prog 19 #[.slice A len cap, .int .i64 n] w fun e w' => e = .returned (.bool (decide (n ∈ l))) ∧ w = w' := by
  have hle := hA.1
  subst hle
  obtain ⟨R, hR⟩ : ∃ R, decide (n ∈ l) = R := ⟨_, rfl⟩
  rw [hR]
  have HR := Lib.hid hR
  clear hR
  go_enter Try.func19, Try.ntmps19
  go_wp2_with fail
  go_loopw [5] (fun c wr => ∃ i : Nat, i ≤ l.length ∧ c = .int .i64 i ∧ Hid (n ∉ l.take i) ∧ w = wr) (fun c _ => l.length - (intOf c).toNat)
  case atStart => exact ⟨0, Nat.zero_le _, rfl, (by simp : n ∉ l.take 0), rfl⟩
  case round =>
    obtain ⟨i, hi, rfl, HI, rfl⟩ := hrel
    by_cases hlt : i < l.length
    · obtain ⟨⟨r1, r2⟩, ad, rfl, h2, h3⟩ := hA.2.2 i hlt
      by_cases hq : l[i] = n
      · have t1 : (l[i] == n) = true := by simpa using hq
        have e : R = true := by rw [← HR.out, ← hq]; simp
        subst e
        clear hq
        go_wp2_with fail
        go_ret
        exact ⟨rfl, rfl⟩
      · have t1 : (l[i] == n) = false := by simpa using hq
        have HS : Hid (n ∉ l.take (i + 1)) := by
          show n ∉ _
          rw [List.take_succ_eq_append_getElem hlt, List.mem_append, not_or]
          exact ⟨HI.out, by simpa using fun h => hq h.symm⟩
        clear hq
        go_wp2_with fail
        go_roundw
        case rel => exact ⟨i + 1, by omega, by go_num, HS.out, by first | rfl | trivial⟩
        case measure => simp [intOf]; omega
    · obtain rfl : i = l.length := by omega
      have e : R = false := by rw [← HR.out]; have := HI.out; rw [List.take_length] at this; simpa using this
      subst e
      go_wp2_with fail
      go_ret
      exact ⟨rfl, rfl⟩
theorem refRises_c (A : Option Addr) (len cap : Nat) (l : List Int) (w : World) (hl : len ≤ 9223372036854775807) (hA : IAt w A len cap l) :
    Calls Try.prog 13 #[.slice A len cap] w fun e w' => e = .returned (.bool (decide (Up l))) ∧ Below w.heap.size w w' := by
  have hle := hA.1
  subst hle
  obtain ⟨R, hR⟩ : ∃ R, decide (Up l) = R := ⟨_, rfl⟩
  rw [hR]
  have HR := Lib.hid hR
  clear hR
  go_enter Try.func13, Try.ntmps13
  go_wp2_with fail
  go_loopw [3] (fun c wr => ∃ i : Nat, Hid (i + 1 ≤ l.length ∨ i = 0) ∧ c = .int .i64 (i + 1 : Nat) ∧ Hid (Up (l.take (i + 1))) ∧ Below w.heap.size w wr) (fun c _ => l.length - (intOf c).toNat)
  case atStart => exact ⟨0, .inr rfl, rfl, (by cases l <;> simp : Up (l.take 1)), Below.refl _ _⟩
  case round =>
    obtain ⟨i, hi, rfl, HI, hb⟩ := hrel
    by_cases hlt : i + 1 < l.length
    · obtain ⟨⟨r1, r2⟩, ad, rfl, h2, h3⟩ := (hA.below hb).2.2 (i + 1) hlt
      obtain ⟨⟨s1, s2⟩, ad', e, k2, k3⟩ := (hA.below hb).2.2 i (by omega)
      injection e with e
      subst e
      rw [add_succ] at h3
      have hu := up_take l i hlt
      obtain ⟨x, hx⟩ : ∃ x, l[i]'(by omega) = x := ⟨_, rfl⟩
      obtain ⟨y, hy⟩ : ∃ y, l[i + 1]'hlt = y := ⟨_, rfl⟩
      rw [hx] at k3 s1 s2 hu
      rw [hy] at h3 r1 r2 hu
      have e1 : IntKind.i64.wrap (((i + 1 : Nat) : Int) - 1) = (i : Int) := by rw [show ((i + 1 : Nat) : Int) - 1 = i by omega]; exact IntWalk.i64_in _ (by omega)
      have l1 : i < l.length := by omega
      clear hx hy
      by_cases hq : y ≤ x
      · have t1 : decide (y ≤ x) = true := by simpa using hq
        have e : R = false := by
          rw [← HR.out]
          refine decide_eq_false fun h => ?_
          have := hu.1 (h.sublist (List.take_sublist _ _))
          omega
        subst e
        clear hq hu
        go_wp2_with fail
        go_quiet (fail)
        go_wp2_with fail
        go_ret
        exact ⟨rfl, below_drewN hb _⟩
      · have t1 : decide (y ≤ x) = false := by simpa using hq
        have HS : Hid (Up (l.take (i + 2))) := hu.2 ⟨HI.out, by omega⟩
        clear hq hu
        go_wp2_with fail
        go_quiet (fail)
        go_wp2_with fail
        go_roundw
        case rel => exact ⟨i + 1, .inl (by omega), by go_num, HS.out, below_drewN hb _⟩
        case measure => simp [intOf]; omega
    · have e : R = true := by
        rw [← HR.out]
        have := HI.out
        rw [List.take_of_length_le (by omega)] at this
        exact decide_eq_true this
      subst e
      go_wp2_with fail
      go_ret
      exact ⟨rfl, hb⟩
theorem rises_c (A : Option Addr) (len cap : Nat) (l : List Int) (w : World) (hl : len ≤ 9223372036854775807) (hA : IAt w A len cap l) :
    Calls Try.prog 12 #[.slice A len cap] w fun e w' => e = .returned (.bool (decide (Up l))) ∧ Below w.heap.size w w' := by
  have hle := hA.1
  subst hle
  obtain ⟨R, hR⟩ : ∃ R, decide (Up l) = R := ⟨_, rfl⟩
  rw [hR]
  have HR := Lib.hid hR
  clear hR
  go_enter Try.func12, Try.ntmps12
  go_wp2_with fail
  go_loopw [3] (fun c wr => ∃ i : Nat, Hid (i + 1 ≤ l.length ∨ i = 0) ∧ c = .int .i64 (i + 1 : Nat) ∧ Hid (Up (l.take (i + 1))) ∧ Below w.heap.size w wr) (fun c _ => l.length - (intOf c).toNat)
  case atStart => exact ⟨0, .inr rfl, rfl, (by cases l <;> simp : Up (l.take 1)), Below.refl _ _⟩
  case round =>
    obtain ⟨i, hi, rfl, HI, hb⟩ := hrel
    by_cases hlt : i + 1 < l.length
    · obtain ⟨⟨r1, r2⟩, ad, rfl, h2, h3⟩ := (hA.below hb).2.2 (i + 1) hlt
      obtain ⟨⟨s1, s2⟩, ad', e, k2, k3⟩ := (hA.below hb).2.2 i (by omega)
      injection e with e
      subst e
      rw [add_succ] at h3
      have hu := up_take l i hlt
      obtain ⟨x, hx⟩ : ∃ x, l[i]'(by omega) = x := ⟨_, rfl⟩
      obtain ⟨y, hy⟩ : ∃ y, l[i + 1]'hlt = y := ⟨_, rfl⟩
      rw [hx] at k3 s1 s2 hu
      rw [hy] at h3 r1 r2 hu
      have e1 : IntKind.i64.wrap (((i + 1 : Nat) : Int) - 1) = (i : Int) := by rw [show ((i + 1 : Nat) : Int) - 1 = i by omega]; exact IntWalk.i64_in _ (by omega)
      have l1 : i < l.length := by omega
      clear hx hy
      by_cases hq : y ≤ x
      · have t1 : decide (y ≤ x) = true := by simpa using hq
        have e : R = false := by
          rw [← HR.out]
          refine decide_eq_false fun h => ?_
          have := hu.1 (h.sublist (List.take_sublist _ _))
          omega
        subst e
        clear hq hu
        go_wp2_with fail
        go_quiet (fail)
        go_wp2_with fail
        go_ret
        exact ⟨rfl, below_drewN hb _⟩
      · have t1 : decide (y ≤ x) = false := by simpa using hq
        have HS : Hid (Up (l.take (i + 2))) := hu.2 ⟨HI.out, by omega⟩
        clear hq hu
        go_wp2_with fail
        go_quiet (fail)
        go_wp2_with fail
        go_roundw
        case rel => exact ⟨i + 1, .inl (by omega), by go_num, HS.out, below_drewN hb _⟩
        case measure => simp [intOf]; omega
    · have e : R = true := by
        rw [← HR.out]
        have := HI.out
        rw [List.take_of_length_le (by omega)] at this
        exact decide_eq_true this
      subst e
      go_wp2_with fail
      go_ret
      exact ⟨rfl, hb⟩
theorem same_c (A A' : Option Addr) (len len' cap cap' : Nat) (l m : List Int) (w : World) (hl : l.length ≤ 9223372036854775807) (hm : m.length ≤ 9223372036854775807) (hA : IAt w A len cap l) (hB : IAt w A' len' cap' m) :
    Calls Try.prog 14 #[.slice A len cap, .slice A' len' cap'] w fun e w' => e = .returned (.bool (decide (l = m))) ∧ Below w.heap.size w w' := by
  have hle := hA.1
  have hme := hB.1
  subst hle hme
  by_cases hlen : l.length = m.length
  · obtain ⟨r, hr⟩ : ∃ r, decide (l = m) = r := ⟨_, rfl⟩
    rw [hr]
    have HR := Lib.hid hr
    clear hr
    go_enter Try.func14, Try.ntmps14
    go_wp2_with fail
    go_loopw [5] (fun c wr => ∃ i : Nat, i ≤ l.length ∧ c = .int .i64 i ∧ Hid (l.take i = m.take i) ∧ Below w.heap.size w wr) (fun c _ => l.length - (intOf c).toNat)
    case atStart => exact ⟨0, Nat.zero_le _, rfl, rfl, Below.refl _ _⟩
    case round =>
      obtain ⟨i, hi, rfl, heq, hb⟩ := hrel
      by_cases hlt : i < l.length
      · obtain ⟨⟨r1, r2⟩, ad, rfl, h2, h3⟩ := (hA.below hb).2.2 i hlt
        obtain ⟨⟨s1, s2⟩, ad', rfl, k2, k3⟩ := (hB.below hb).2.2 i (by omega)
        by_cases hq : l[i] = m[i]
        · have h5 : (l[i] == m[i]) = true := by rw [hq]; simp
          have HQ := Lib.hid hq
          clear hq
          go_wp2_with fail
          go_quiet (fail)
          go_wp2_with fail
          go_roundw
          case rel =>
            refine ⟨i + 1, by omega, by go_num, ?_, below_drewN hb _⟩
            show _ = _
            rw [List.take_succ_eq_append_getElem hlt, List.take_succ_eq_append_getElem (by omega), heq.out, HQ.out]
          case measure => simp [intOf]; omega
        · have he : decide (l = m) = false := by
            apply decide_eq_false
            rintro rfl
            exact hq rfl
          rw [HR.out] at he
          have HE := Lib.hid he
          clear he
          have h5 : (l[i] == m[i]) = false := by rw [beq_eq_false_iff_ne]; exact hq
          clear hq
          go_wp2_with fail
          go_quiet (fail)
          go_wp2_with fail
          go_ret
          exact ⟨ret_bool HE.out.symm, below_drewN hb _⟩
      · obtain rfl : i = l.length := by omega
        have he : decide (l = m) = true := by
          have h := heq.out
          rw [List.take_length, hlen, List.take_length] at h
          exact decide_eq_true h
        rw [HR.out] at he
        have HE := Lib.hid he
        clear he
        go_wp2_with fail
        go_ret
        exact ⟨ret_bool HE.out.symm, hb⟩
  · have he : decide (l = m) = false := by
      apply decide_eq_false; intro e; exact hlen (by rw [e])
    rw [he]
    go_enter Try.func14, Try.ntmps14
    go_wp2_with fail
    go_ret
    exact ⟨rfl, Below.refl _ _⟩
end Go.Proofs.Ytalhjejbaembbaa
