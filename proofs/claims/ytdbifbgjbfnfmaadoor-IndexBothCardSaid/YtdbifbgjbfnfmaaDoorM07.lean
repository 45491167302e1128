/-
  Texts of the same seat, one behind the other (merged; each says at its head what it is).
-/
import Derived.Test.YtdbifbgjbfnfmaaDoorM06
import Derived.Test.YtdbifbgjbfnfmaaDoorM03
import Derived.Test.YtdbifbgjbfnfmaaDoorM01
import Derived.Test.YtdbifbgjbfnfmaaDoorProg
import Derived.Deep.Fields
import Derived.Deep.Slices
import Derived.Deep.RegionHeld3
import Derived.Deep.OwnRows
import Derived.Outline
import Derived.BigQuiet
import Derived.Deep.QuietTactic
import Derived.Deep.RegionWith
import Derived.OpenShut
import Derived.Deep.Onto
import Derived.Lib.Hide
import Derived.IntWalk
import Derived.BigRegion
import Derived.Deep.AppendLies
import Derived.RegionTactic
import Derived.Test.YtdbifbgjbfnfmaaDoorM05
import Derived.Test.YtdbifbgjbfnfmaaDoorM04
/-
  Layer 5 (match): what the document's Check returns; all that was in memory stays.
-/
namespace Go.Proofs.YtdbifbgjbfnfmaaDoor
open Go.RowKit Go.Deep
attribute [local go_sem] str_size str_append str_toList str_get str_extract
set_option linter.unusedVariables false
set_option linter.unusedSimpArgs false
set_option maxRecDepth 100000 in
set_option maxHeartbeats 1000000 in
theorem mrefCheck_c (m : Mat) (A : Option Addr) (cap : Nat) (w : World) (hm : smallM m) (hS : StrsAt w A m.2.2.2.length m.2.2.2) :
    Calls Tryd.prog 40 #[.agg #[.int .i64 m.1, .string (str m.2.1), .string (str m.2.2.1), .slice A m.2.2.2.length cap]] w fun e w' => e = .returned (.int .i64 (eM (chkL m))) ∧ Below w.heap.size w w' := by
  have e0 : eM true = 0 := rfl
  have e1 : eM false = 50 := rfl
  obtain ⟨z1, z2, z3, z4⟩ := hm
  obtain ⟨k, n, v, s⟩ := m
  unfold chkL
  simp only at hS z1 z2 z3 z4 ⊢
  have cn := fun W => refName_c n W (by omega)
  have cv := fun W => refValue_c v W (by omega)
  have hba : Below w.heap.size w (w.alloc (.cells #[.int .i64 k, .string (str n), .string (str v), .slice A s.length cap] 47)) := (Below.refl _ _).alloc (Nat.le_refl _) _
  have HS := Lib.hid (hS.below hba)
  have HB := Lib.hid hba
  clear hba hS
  cases hN : nameL n with
  | false =>
    rw [hN] at cn
    rw [Bool.false_and, e1]
    clear hN
    go_enter Tryd.func40, Tryd.ntmps40
    go_wp2_with (go_at_call 66; refine (cn _).mono ?_; rintro e w1 ⟨rfl, rfl⟩; dsimp only)
    go_ret
    exact ⟨rfl, HB.out⟩
  | true =>
  rw [hN] at cn
  rw [Bool.true_and]
  clear hN
  by_cases h3 : k = 3
  · subst h3
    rw [if_pos rfl]
    by_cases hv0 : v = []
    · subst hv0
      rw [show (([] : List UInt8) == []) = true from rfl, Bool.true_and]
      by_cases hl0 : s.length = 0
      · have e : setL s = false := by unfold setL; simp [hl0]
        rw [e, e1]
        have t1 : decide ((s.length : Int) < 1) = true := by simp [hl0]
        clear e hl0
        go_enter Tryd.func40, Tryd.ntmps40
        go_wp2_with (go_at_call 66; refine (cn _).mono ?_; rintro e w1 ⟨rfl, rfl⟩; dsimp only)
        go_ret
        exact ⟨rfl, HB.out⟩
      by_cases h8 : 8 < (s.length : Int)
      · have e : setL s = false := by unfold setL; rw [show decide (s.length ≤ 8) = false by simp; omega]; simp
        rw [e, e1]
        have t1 : decide ((s.length : Int) < 1) = false := by simp; omega
        have t2 : decide (8 < (s.length : Int)) = true := by simpa using h8
        clear e hl0 h8
        go_enter Tryd.func40, Tryd.ntmps40
        go_wp2_with (go_at_call 66; refine (cn _).mono ?_; rintro e w1 ⟨rfl, rfl⟩; dsimp only)
        go_ret
        exact ⟨rfl, HB.out⟩
      have e : setL s = setFrom none s := by unfold setL; rw [show decide (1 ≤ s.length) = true by simp; omega, show decide (s.length ≤ 8) = true by simp; omega]; simp
      rw [e]
      obtain ⟨R, hR⟩ : ∃ R, setFrom none s = R := ⟨_, rfl⟩
      rw [hR]
      have HR := Lib.hid hR
      have t1 : decide ((s.length : Int) < 1) = false := by simp; omega
      have t2 : decide (8 < (s.length : Int)) = false := by simp; omega
      have d := blk_new w (.cells #[.int .i64 3, .string (str n), .string (str []), .slice A s.length cap] 47)
      have d3 := blk_cell d 3
      simp only [List.getElem?_toArray, List.getElem?_cons_zero, List.getElem?_cons_succ] at d3
      clear e hl0 h8 hR cv d
      go_enter Tryd.func40, Tryd.ntmps40
      go_wp2_with (go_at_call 66; refine (cn _).mono ?_; rintro e w1 ⟨rfl, rfl⟩; dsimp only)
      obtain ⟨wa, hwa⟩ : ∃ wa, wa = w.alloc (.cells #[.int .i64 3, .string (str n), .string (str []), .slice A s.length cap] 47) := ⟨_, rfl⟩
      have HS' : Hid (StrsAt wa A s.length s ∧ Below w.heap.size w wa ∧ wa.cell? ⟨w.heap.size, 3, none⟩ = some (.slice A s.length cap)) := by rw [hwa]; exact ⟨HS.out, HB.out, d3⟩
      rw [← hwa]
      clear hwa HS HB d3
      go_loopw [3] (fun c wr => ∃ i : Nat, i ≤ s.length ∧ c = .int .i64 i ∧ Hid (setFrom (prevO s i) (s.drop i) = R) ∧ Below wa.heap.size wa wr) (fun c _ => s.length - (intOf c).toNat)
      case atStart => exact ⟨0, Nat.zero_le _, rfl, by show _ = _; rw [prevO_zero]; exact HR.out, Below.refl _ _⟩
      case round =>
        obtain ⟨i, hi, rfl, HI, hb⟩ := hrel
        have hbw := below2 HS'.out.2.1 hb HS'.out.2.1.size
        have hc3 := (hb.cell (p := ⟨w.heap.size, 3, none⟩) (World.block_lt_of_cell? _ _ HS'.out.2.2)).trans HS'.out.2.2
        have hA := HS'.out.1.below hb
        by_cases hlt : i < s.length
        · obtain ⟨-, ad, rfl, h2, h3⟩ := hA.2 i hlt
          have hst := setFrom_at (o := prevO s i) hlt
          rw [HI.out] at hst
          have z1 := z4 _ (List.getElem_mem hlt)
          have hnx := prevO_succ hlt
          obtain ⟨x, hx⟩ : ∃ v, s[i]'hlt = v := ⟨_, rfl⟩
          rw [hx] at hst h3 z1 hnx
          have HNX := Lib.hid hnx
          have HST := Lib.hid hst
          have c1 := fun W => refValue_c x W (by omega)
          clear hst hx hnx
          cases hV : valueL x with
          | false =>
            have e := HST.out
            rw [hV, Bool.false_and] at e
            subst e
            rw [hV] at c1
            clear hV
            have hx0 : i = 0 ∨ 0 < i := by omega
            by_cases hi0 : i = 0
            · subst hi0
              have ea : ad.add 0 = ad := by rcases ad with ⟨b, o, p⟩; cases p <;> rfl
              rw [ea] at h2 h3
              go_wp2_with fail
              go_quiet (first | (go_at_call 67; exact Calls.quiet_of_same ((c1 _).mono fun _ _ ⟨ha, hb⟩ => ⟨ha, hb.symm⟩)))
              go_wp2_with fail
              go_ret
              exact ⟨rfl, below_drewN hbw _⟩
            · have ti : (0 : Int) < (i : Int) := by omega
              go_wp2_with fail
              go_quiet (first | (go_at_call 67; exact Calls.quiet_of_same ((c1 _).mono fun _ _ ⟨ha, hb⟩ => ⟨ha, hb.symm⟩)))
              go_wp2_with fail
              go_ret
              exact ⟨rfl, below_drewN hbw _⟩
          | true =>
          rw [hV] at c1
          by_cases hi0 : i = 0
          · subst hi0
            have e := HST.out
            rw [prevO_zero, hV, Bool.true_and] at e
            have e2 : R = setFrom (some x) (s.drop (0 + 1)) := e
            have HE : Hid (setFrom (prevO s (0 + 1)) (s.drop (0 + 1)) = R) := by show _ = _; rw [HNX.out, e2]
            clear hV e e2
            have ea : ad.add 0 = ad := by rcases ad with ⟨b, o, p⟩; cases p <;> rfl
            rw [ea] at h2 h3
            go_wp2_with fail
            go_quiet (first | (go_at_call 67; exact Calls.quiet_of_same ((c1 _).mono fun _ _ ⟨ha, hb⟩ => ⟨ha, hb.symm⟩)))
            go_wp2_with fail
            go_roundw
            case rel => exact ⟨1, by omega, by go_num, HE.out, below_drewN hb _⟩
            case measure => simp [intOf]; omega
          · obtain ⟨j, rfl⟩ : ∃ j, i = j + 1 := ⟨i - 1, by omega⟩
            have ea : ad.add (j + 1) = ⟨ad.block, ad.off + (j + 1), none⟩ := by unfold Addr.add; rw [if_neg (by omega)]
            rw [ea] at h2 h3
            clear ea
            have hpj := prevO_succ (s := s) (i := j) (by omega)
            obtain ⟨-, ad', hAd, h2', h3'⟩ := hA.2 j (by omega)
            injection hAd with hAd
            subst hAd
            obtain ⟨p, hp⟩ : ∃ p, s[j]'(by omega) = p := ⟨_, rfl⟩
            rw [hp] at hpj h3'
            have HPJ := Lib.hid hpj
            have hord := less_trans_like x p
            have HORD := Lib.hid hord
            have ej : ((j + 1 : Nat) : Int) - 1 = (j : Int) := by omega
            have tj : (0 : Int) < ((j + 1 : Nat) : Int) := by omega
            have tj2 : (0 : Int) < (j : Int) + 1 := by omega
            clear hord hpj hp
            cases hL : Op.bytesLess p x with
            | false =>
              have e := HST.out
              rw [HPJ.out, hV, Bool.true_and] at e
              have e2 : R = (Op.bytesLess p x && setFrom (some x) (s.drop (j + 1 + 1))) := e
              rw [hL, Bool.false_and] at e2
              subst e2
              have tl : (Op.bytesLess x p || x == p) = true := by have := HORD.out; rw [hL] at this; revert this; generalize (Op.bytesLess x p || x == p) = q; cases q <;> simp
              clear hV hL e
              go_wp2_with fail
              go_quiet (first | (go_at_call 67; exact Calls.quiet_of_same ((c1 _).mono fun _ _ ⟨ha, hb⟩ => ⟨ha, hb.symm⟩)))
              go_wp2_with fail
              go_ret
              exact ⟨rfl, below_drewN hbw _⟩
            | true =>
              have e := HST.out
              rw [HPJ.out, hV, Bool.true_and] at e
              have e2 : R = (Op.bytesLess p x && setFrom (some x) (s.drop (j + 1 + 1))) := e
              rw [hL, Bool.true_and] at e2
              have HE : Hid (setFrom (prevO s (j + 1 + 1)) (s.drop (j + 1 + 1)) = R) := by show _ = _; rw [HNX.out, e2]
              have tl : (Op.bytesLess x p || x == p) = false := by have := HORD.out; rw [hL] at this; revert this; generalize (Op.bytesLess x p || x == p) = q; cases q <;> simp
              clear hV hL e e2
              go_wp2_with fail
              go_quiet (first | (go_at_call 67; exact Calls.quiet_of_same ((c1 _).mono fun _ _ ⟨ha, hb⟩ => ⟨ha, hb.symm⟩)))
              go_wp2_with fail
              go_roundw
              case rel => exact ⟨j + 1 + 1, by omega, by go_num, HE.out, below_drewN hb _⟩
              case measure => simp [intOf]; omega
        · obtain rfl : i = s.length := by omega
          have e := HI.out
          rw [setFrom_end] at e
          subst e
          go_wp2_with fail
          go_ret
          exact ⟨rfl, hbw⟩
    · have tv : (v == []) = false := by rw [beq_eq_false_iff_ne]; exact hv0
      have tve : v.isEmpty = false := by cases v with | nil => exact absurd rfl hv0 | cons c r => rfl
      rw [tv, Bool.false_and, e1]
      clear hv0
      go_enter Tryd.func40, Tryd.ntmps40
      go_wp2_with (go_at_call 66; refine (cn _).mono ?_; rintro e w1 ⟨rfl, rfl⟩; dsimp only)
      go_ret
      exact ⟨rfl, HB.out⟩
  rw [if_neg h3]
  have t3 : (k == 3) = false := by simpa using h3
  have t3' : (k != 3) = true := by simp [h3]
  by_cases hk : 0 ≤ k ∧ k ≤ 3
  · rw [if_pos hk]
    have k0 : decide (0 ≤ k) = true := by simp; omega
    have k3 : decide (k < 3) = true := by simp; omega
    cases hV : valueL v with
    | false =>
      rw [hV] at cv
      rw [Bool.false_and, e1]
      clear hV h3 hk
      go_enter Tryd.func40, Tryd.ntmps40
      go_wp2_with (first | (go_at_call 66; refine (cn _).mono ?_; rintro e w1 ⟨rfl, rfl⟩; dsimp only) | (go_at_call 67; refine (cv _).mono ?_; rintro e w1 ⟨rfl, rfl⟩; dsimp only))
      go_ret
      exact ⟨rfl, HB.out⟩
    | true =>
      rw [hV] at cv
      rw [Bool.true_and]
      by_cases hl0 : s.length = 0
      · rw [decide_eq_true hl0, e0]
        have tl : ((s.length : Int) == 0) = true := by simp [hl0]
        clear hV h3 hk hl0
        go_enter Tryd.func40, Tryd.ntmps40
        go_wp2_with (first | (go_at_call 66; refine (cn _).mono ?_; rintro e w1 ⟨rfl, rfl⟩; dsimp only) | (go_at_call 67; refine (cv _).mono ?_; rintro e w1 ⟨rfl, rfl⟩; dsimp only))
        go_ret
        exact ⟨rfl, HB.out⟩
      · rw [decide_eq_false hl0, e1]
        have tl : ((s.length : Int) == 0) = false := by rw [beq_eq_false_iff_ne]; omega
        clear hV h3 hk hl0
        go_enter Tryd.func40, Tryd.ntmps40
        go_wp2_with (first | (go_at_call 66; refine (cn _).mono ?_; rintro e w1 ⟨rfl, rfl⟩; dsimp only) | (go_at_call 67; refine (cv _).mono ?_; rintro e w1 ⟨rfl, rfl⟩; dsimp only))
        go_ret
        exact ⟨rfl, HB.out⟩
  · rw [if_neg hk, e1]
    by_cases hk0 : 0 ≤ k
    · have k0 : decide (0 ≤ k) = true := by simp; omega
      have k3 : decide (k < 3) = false := by simp; omega
      clear h3 hk hk0
      go_enter Tryd.func40, Tryd.ntmps40
      go_wp2_with (go_at_call 66; refine (cn _).mono ?_; rintro e w1 ⟨rfl, rfl⟩; dsimp only)
      go_ret
      exact ⟨rfl, HB.out⟩
    · have k0 : decide (0 ≤ k) = false := by simp; omega
      clear h3 hk hk0
      go_enter Tryd.func40, Tryd.ntmps40
      go_wp2_with (go_at_call 66; refine (cn _).mono ?_; rintro e w1 ⟨rfl, rfl⟩; dsimp only)
      go_ret
      exact ⟨rfl, HB.out⟩
end Go.Proofs.YtdbifbgjbfnfmaaDoor
/-
  Layer 6 (post): lists that rise, as sets. Plain; it names no program.
-/
namespace Go.Proofs.YtdbifbgjbfnfmaaDoor
set_option linter.unusedVariables false
set_option linter.unusedSimpArgs false

/-- Each is above the one ahead. -/
abbrev Up (l : List Int) : Prop := l.Pairwise (· < ·)
/-- Two lists that are taken from the front, the lowest one first; f tells which are kept. -/
def mergeL (f : Bool → Bool → Bool) : List Int → List Int → List Int
  | [], [] => []
  | x :: a, [] => (if f true false = true then [x] else []) ++ mergeL f a []
  | [], y :: b => (if f false true = true then [y] else []) ++ mergeL f [] b
  | x :: a, y :: b =>
    if x < y then (if f true false = true then [x] else []) ++ mergeL f a (y :: b)
    else if y < x then (if f false true = true then [y] else []) ++ mergeL f (x :: a) b
    else (if f true true = true then [x] else []) ++ mergeL f a b
termination_by a b => a.length + b.length
/-- Where the lowest one stands. -/
def inA : List Int → List Int → Bool
  | [], _ => false
  | _ :: _, [] => true
  | x :: _, y :: _ => decide (x ≤ y)
def inB : List Int → List Int → Bool
  | _, [] => false
  | [], _ :: _ => true
  | x :: _, y :: _ => decide (y ≤ x)
theorem in_some {a b : List Int} (h : a ≠ [] ∨ b ≠ []) : inA a b = true ∨ inB a b = true := by
  match a, b with
  | [], [] => simp at h
  | x :: a, [] => exact .inl rfl
  | [], y :: b => exact .inr rfl
  | x :: a, y :: b => simp only [inA, inB, decide_eq_true_eq]; omega
theorem inA_cons {a b : List Int} (h : inA a b = true) : ∃ n r, a = n :: r := by
  match a with
  | [] => simp [inA] at h
  | x :: a => exact ⟨x, a, rfl⟩
theorem inB_cons {a b : List Int} (h : inB a b = true) : ∃ n r, b = n :: r := by
  match a, b with
  | _, [] => simp [inB] at h
  | _, y :: b => exact ⟨y, b, rfl⟩
theorem merge_a (f : Bool → Bool → Bool) {x : Int} {a b : List Int} (h1 : inA (x :: a) b = true) (h2 : inB (x :: a) b = false) : mergeL f (x :: a) b = (if f true false = true then [x] else []) ++ mergeL f a b := by
  match b with
  | [] => rw [mergeL]
  | y :: b =>
    simp only [inA, inB, decide_eq_true_eq, decide_eq_false_iff_not] at h1 h2
    rw [mergeL, if_pos (show x < y by omega)]
theorem merge_b (f : Bool → Bool → Bool) {y : Int} {a b : List Int} (h1 : inA a (y :: b) = false) (h2 : inB a (y :: b) = true) : mergeL f a (y :: b) = (if f false true = true then [y] else []) ++ mergeL f a b := by
  match a with
  | [] => rw [mergeL]
  | x :: a =>
    simp only [inA, inB, decide_eq_true_eq, decide_eq_false_iff_not] at h1 h2
    rw [mergeL, if_neg (show ¬ x < y by omega), if_pos (show y < x by omega)]
theorem merge_ab (f : Bool → Bool → Bool) {x y : Int} {a b : List Int} (h1 : inA (x :: a) (y :: b) = true) (h2 : inB (x :: a) (y :: b) = true) : x = y ∧ mergeL f (x :: a) (y :: b) = (if f true true = true then [y] else []) ++ mergeL f a b := by
  simp only [inA, inB, decide_eq_true_eq] at h1 h2
  obtain rfl : x = y := by omega
  exact ⟨rfl, by rw [mergeL, if_neg (show ¬ x < x by omega), if_neg (show ¬ x < x by omega)]⟩
theorem merge_nil (f : Bool → Bool → Bool) : mergeL f [] [] = [] := by rw [mergeL]
theorem mem_kept {p : Bool} {x n : Int} : x ∈ (if p = true then [n] else []) ↔ p = true ∧ x = n := by cases p <;> simp
theorem mem_merge_some (f : Bool → Bool → Bool) (a b : List Int) : ∀ x, x ∈ mergeL f a b → x ∈ a ∨ x ∈ b := by
  induction a, b using mergeL.induct with
  | case1 => intro x h; simp [merge_nil] at h
  | case2 y a ih => intro x h; rw [mergeL, List.mem_append, mem_kept] at h; have := ih x; simp at this ⊢; rcases h with h | h <;> simp_all
  | case3 y b ih => intro x h; rw [mergeL, List.mem_append, mem_kept] at h; have := ih x; simp at this ⊢; rcases h with h | h <;> simp_all
  | case4 y a z b h1 ih => intro x h; rw [mergeL, if_pos h1, List.mem_append, mem_kept] at h; have := ih x; simp only [List.mem_cons] at this ⊢; grind
  | case5 y a z b h1 h2 ih => intro x h; rw [mergeL, if_neg h1, if_pos h2, List.mem_append, mem_kept] at h; have := ih x; simp only [List.mem_cons] at this ⊢; grind
  | case6 y a z b h1 h2 ih => intro x h; rw [mergeL, if_neg h1, if_neg h2, List.mem_append, mem_kept] at h; have := ih x; simp only [List.mem_cons] at this ⊢; grind
theorem len_merge (f : Bool → Bool → Bool) (a b : List Int) : (mergeL f a b).length ≤ a.length + b.length := by
  have hk : ∀ (p : Bool) (n : Int), (if p = true then [n] else []).length ≤ 1 := by intro p n; cases p <;> simp
  induction a, b using mergeL.induct with
  | case1 => simp [merge_nil]
  | case2 y a ih => rw [mergeL, List.length_append]; have := hk (f true false) y; simp at ih ⊢; omega
  | case3 y b ih => rw [mergeL, List.length_append]; have := hk (f false true) y; simp at ih ⊢; omega
  | case4 y a z b h1 ih => rw [mergeL, if_pos h1, List.length_append]; have := hk (f true false) y; simp at ih ⊢; omega
  | case5 y a z b h1 h2 ih => rw [mergeL, if_neg h1, if_pos h2, List.length_append]; have := hk (f false true) z; simp at ih ⊢; omega
  | case6 y a z b h1 h2 ih => rw [mergeL, if_neg h1, if_neg h2, List.length_append]; have := hk (f true true) y; simp at ih ⊢; omega
theorem up_kept {p : Bool} {n : Int} {l : List Int} (h : ∀ x ∈ l, n < x) (hl : Up l) : Up ((if p = true then [n] else []) ++ l) := by
  cases p
  · simpa using hl
  · simpa using ⟨h, hl⟩
theorem up_merge (f : Bool → Bool → Bool) (a b : List Int) : Up a → Up b → Up (mergeL f a b) := by
  induction a, b using mergeL.induct with
  | case1 => intro _ _; simp [merge_nil]
  | case2 y a ih =>
    intro ha hb; rw [mergeL]
    rw [Up, List.pairwise_cons] at ha
    exact up_kept (fun x hx => by rcases mem_merge_some f _ _ x hx with h | h; exact ha.1 x h; simp at h) (ih ha.2 hb)
  | case3 y b ih =>
    intro ha hb; rw [mergeL]
    rw [Up, List.pairwise_cons] at hb
    exact up_kept (fun x hx => by rcases mem_merge_some f _ _ x hx with h | h; simp at h; exact hb.1 x h) (ih ha hb.2)
  | case4 y a z b h1 ih =>
    intro ha hb; rw [mergeL, if_pos h1]
    rw [Up, List.pairwise_cons] at ha
    have hb2 := hb
    rw [Up, List.pairwise_cons] at hb2
    refine up_kept (fun x hx => ?_) (ih ha.2 hb)
    rcases mem_merge_some f _ _ x hx with h | h
    · exact ha.1 x h
    · rcases List.mem_cons.1 h with rfl | h
      · exact h1
      · exact Int.lt_trans h1 (hb2.1 x h)
  | case5 y a z b h1 h2 ih =>
    intro ha hb; rw [mergeL, if_neg h1, if_pos h2]
    rw [Up, List.pairwise_cons] at hb
    have ha2 := ha
    rw [Up, List.pairwise_cons] at ha2
    refine up_kept (fun x hx => ?_) (ih ha hb.2)
    rcases mem_merge_some f _ _ x hx with h | h
    · rcases List.mem_cons.1 h with rfl | h
      · exact h2
      · exact Int.lt_trans h2 (ha2.1 x h)
    · exact hb.1 x h
  | case6 y a z b h1 h2 ih =>
    intro ha hb; rw [mergeL, if_neg h1, if_neg h2]
    obtain rfl : y = z := by omega
    rw [Up, List.pairwise_cons] at ha hb
    refine up_kept (fun x hx => ?_) (ih ha.2 hb.2)
    rcases mem_merge_some f _ _ x hx with h | h
    · exact ha.1 x h
    · exact hb.1 x h
theorem not_mem_low {n : Int} {l : List Int} (h : ∀ x ∈ l, n < x) : n ∉ l := fun hm => by have := h n hm; omega
theorem mem_merge (f : Bool → Bool → Bool) (a b : List Int) : Up a → Up b → ∀ x, x ∈ mergeL f a b ↔ (x ∈ a ∨ x ∈ b) ∧ f (decide (x ∈ a)) (decide (x ∈ b)) = true := by
  induction a, b using mergeL.induct with
  | case1 => intro _ _ x; simp [merge_nil]
  | case2 y a ih =>
    intro ha hb x; rw [mergeL, List.mem_append, mem_kept]
    rw [Up, List.pairwise_cons] at ha
    rw [ih ha.2 hb]
    have := not_mem_low ha.1
    by_cases e : x = y
    · subst e; simp [this]
    · simp [e]
  | case3 y b ih =>
    intro ha hb x; rw [mergeL, List.mem_append, mem_kept]
    rw [Up, List.pairwise_cons] at hb
    rw [ih ha hb.2]
    have := not_mem_low hb.1
    by_cases e : x = y
    · subst e; simp [this]
    · simp [e]
  | case4 y a z b h1 ih =>
    intro ha hb x; rw [mergeL, if_pos h1, List.mem_append, mem_kept]
    rw [Up, List.pairwise_cons] at ha
    rw [ih ha.2 hb]
    rw [Up, List.pairwise_cons] at hb
    have hn := not_mem_low ha.1
    by_cases e : x = y
    · subst e
      have h3 : x ∉ b := fun hm => by have := hb.1 x hm; omega
      have h4 : x ≠ z := by omega
      simp [hn, h3, h4]
    · simp [e]
  | case5 y a z b h1 h2 ih =>
    intro ha hb x; rw [mergeL, if_neg h1, if_pos h2, List.mem_append, mem_kept]
    rw [Up, List.pairwise_cons] at hb
    rw [ih ha hb.2]
    rw [Up, List.pairwise_cons] at ha
    have hn := not_mem_low hb.1
    by_cases e : x = z
    · subst e
      have h3 : x ∉ a := fun hm => by have := ha.1 x hm; omega
      have h4 : x ≠ y := by omega
      simp [hn, h3, h4]
    · simp [e]
  | case6 y a z b h1 h2 ih =>
    intro ha hb x; rw [mergeL, if_neg h1, if_neg h2, List.mem_append, mem_kept]
    obtain rfl : y = z := by omega
    rw [Up, List.pairwise_cons] at ha hb
    rw [ih ha.2 hb.2]
    have h3 := not_mem_low ha.1
    have h4 := not_mem_low hb.1
    by_cases e : x = y
    · subst e; simp [h3, h4]
    · simp [e]
/-- Lists that rise and hold the same are the same. -/
theorem up_ext : ∀ {a b : List Int}, Up a → Up b → (∀ x, x ∈ a ↔ x ∈ b) → a = b := by
  intro a
  induction a with
  | nil => intro b _ _ h; match b with
    | [] => rfl
    | y :: b => have := (h y).2 (by simp); simp at this
  | cons x a ih =>
    intro b ha hb h
    match b with
    | [] => have := (h x).1 (by simp); simp at this
    | y :: b =>
      rw [Up, List.pairwise_cons] at ha hb
      have hxy : x = y := by
        have h1 := (h x).1 (by simp)
        have h2 := (h y).2 (by simp)
        rcases List.mem_cons.1 h1 with e | h1
        · exact e
        · rcases List.mem_cons.1 h2 with e | h2
          · exact e.symm
          · have := hb.1 x h1; have := ha.1 y h2; omega
      subst hxy
      rw [ih ha.2 hb.2 fun z => ?_]
      have h0 := h z
      have h3 := not_mem_low ha.1
      have h4 := not_mem_low hb.1
      by_cases e : z = x
      · subst e; simp [h3, h4]
      · simpa [e] using h0
/-! the three -/
def fAnd (p q : Bool) : Bool := p && q
def fOr (p q : Bool) : Bool := p || q
def fNot (p q : Bool) : Bool := p && !q
theorem mem_and {a b : List Int} (ha : Up a) (hb : Up b) (x : Int) : x ∈ mergeL fAnd a b ↔ x ∈ a ∧ x ∈ b := by
  rw [mem_merge _ _ _ ha hb]; simp only [fAnd, Bool.and_eq_true, decide_eq_true_eq]; exact ⟨fun h => h.2, fun h => ⟨.inl h.1, h⟩⟩
theorem mem_or {a b : List Int} (ha : Up a) (hb : Up b) (x : Int) : x ∈ mergeL fOr a b ↔ x ∈ a ∨ x ∈ b := by
  rw [mem_merge _ _ _ ha hb]; simp only [fOr, Bool.or_eq_true, decide_eq_true_eq]; exact ⟨fun h => h.2, fun h => ⟨h, h⟩⟩
theorem mem_not {a b : List Int} (ha : Up a) (hb : Up b) (x : Int) : x ∈ mergeL fNot a b ↔ x ∈ a ∧ x ∉ b := by
  rw [mem_merge _ _ _ ha hb]; simp only [fNot, Bool.and_eq_true, Bool.not_eq_true', decide_eq_true_eq, decide_eq_false_iff_not]; exact ⟨fun h => h.2, fun h => ⟨.inl h.1, h⟩⟩
/-! the document's -/
def andL (a b : List Int) : List Int := a.filter (fun x => decide (x ∈ b))
def notL (a b : List Int) : List Int := a.filter (fun x => !decide (x ∈ b))
theorem up_filter {a : List Int} (p : Int → Bool) (h : Up a) : Up (a.filter p) := h.sublist List.filter_sublist
theorem and_eq {a b : List Int} (ha : Up a) (hb : Up b) : mergeL fAnd a b = andL a b :=
  up_ext (up_merge _ _ _ ha hb) (up_filter _ ha) fun x => by rw [mem_and ha hb]; simp [andL]
theorem not_eq {a b : List Int} (ha : Up a) (hb : Up b) : mergeL fNot a b = notL a b :=
  up_ext (up_merge _ _ _ ha hb) (up_filter _ ha) fun x => by rw [mem_not ha hb]; simp [notL]
/-! rising ones of a list -/
def stepR (out : List Int) (x : Int) : List Int := match out.getLast? with
  | none => [x]
  | some y => if y < x then out ++ [x] else out
def risL (l : List Int) : List Int := (l.take 200).foldl stepR []
theorem up_snoc {l : List Int} {x : Int} (h : Up l) (hx : ∀ y ∈ l, y < x) : Up (l ++ [x]) := by
  rw [Up, List.pairwise_append]; exact ⟨h, by simp, fun a ha b hb => by simp at hb; subst hb; exact hx a ha⟩
theorem up_last {l : List Int} {y : Int} (h : Up l) (hy : l.getLast? = some y) : ∀ x ∈ l, x ≤ y := by
  obtain ⟨m, rfl⟩ := List.getLast?_eq_some_iff.1 hy
  rw [Up, List.pairwise_append] at h
  intro x hx
  rcases List.mem_append.1 hx with hx | hx
  · have := h.2.2 x hx y (by simp); omega
  · simp at hx; omega
theorem up_stepR {out : List Int} {x : Int} (h : Up out) : Up (stepR out x) := by
  unfold stepR
  split
  · simp
  · rename_i y hy
    split
    · exact up_snoc h fun z hz => by have := up_last h hy z hz; omega
    · exact h
theorem mem_stepR {out : List Int} {x : Int} : ∀ y ∈ stepR out x, y ∈ out ∨ y = x := by
  intro y h
  unfold stepR at h
  split at h
  · simp at h; exact .inr h
  · split at h
    · simpa using h
    · exact .inl h
theorem len_stepR (out : List Int) (x : Int) : (stepR out x).length ≤ out.length + 1 := by
  unfold stepR
  split
  · simp
  · split <;> simp
theorem up_foldR (l : List Int) : ∀ out, Up out → Up (l.foldl stepR out) := by
  induction l with
  | nil => intro out h; exact h
  | cons x l ih => intro out h; exact ih _ (up_stepR h)
theorem mem_foldR (l : List Int) : ∀ out, ∀ y ∈ l.foldl stepR out, y ∈ out ∨ y ∈ l := by
  induction l with
  | nil => intro out y h; exact .inl h
  | cons x l ih =>
    intro out y h
    rcases ih _ y h with h | h
    · rcases mem_stepR y h with h | h
      · exact .inl h
      · subst h; exact .inr (by simp)
    · exact .inr (by simp [h])
theorem len_foldR (l : List Int) : ∀ out, (l.foldl stepR out).length ≤ out.length + l.length := by
  induction l with
  | nil => intro out; simp
  | cons x l ih => intro out; have := ih (stepR out x); have := len_stepR out x; simp at *; omega
theorem up_risL (l : List Int) : Up (risL l) := up_foldR _ _ (by simp)
theorem mem_risL (l : List Int) : ∀ y ∈ risL l, y ∈ l := fun y h => by
  rcases mem_foldR _ _ y h with h | h
  · simp at h
  · exact List.mem_of_mem_take h
theorem len_risL (l : List Int) : (risL l).length ≤ 200 := by
  have := len_foldR (l.take 200) []
  rw [List.length_take] at this
  simp at this; unfold risL; omega
theorem fold_take (l : List Int) (i : Nat) (h : i < l.length) : (l.take (i + 1)).foldl stepR [] = stepR ((l.take i).foldl stepR []) l[i] := by
  rw [List.take_succ_eq_append_getElem h, List.foldl_append]; rfl
/-! whether a list rises -/
theorem up_take (l : List Int) (i : Nat) (h : i + 1 < l.length) : Up (l.take (i + 2)) ↔ Up (l.take (i + 1)) ∧ l[i]'(by omega) < l[i + 1] := by
  rw [List.take_succ_eq_append_getElem h]
  constructor
  · intro hu
    rw [Up, List.pairwise_append] at hu
    refine ⟨hu.1, hu.2.2 _ ?_ _ (by simp)⟩
    rw [List.take_succ_eq_append_getElem (show i < l.length by omega)]; exact List.mem_append_right _ (by simp)
  · intro ⟨hu, hx⟩
    refine up_snoc hu fun y hy => ?_
    have hl : (l.take (i + 1)).getLast? = some (l[i]'(by omega)) := by
      rw [List.take_succ_eq_append_getElem (show i < l.length by omega)]; exact List.getLast?_concat
    have := up_last hu hl y hy
    omega
/-! union of lists -/
theorem unionL_mem (L : List (List Int)) : ∀ acc : List Int, Up acc → (∀ l ∈ L, Up l) → Up (L.foldl (mergeL fOr) acc) ∧ ∀ x, x ∈ L.foldl (mergeL fOr) acc ↔ x ∈ acc ∨ ∃ l ∈ L, x ∈ l := by
  induction L with
  | nil => intro acc h _; exact ⟨h, fun x => by simp⟩
  | cons m L ih =>
    intro acc h hL
    have hm := hL m (by simp)
    have := ih (mergeL fOr acc m) (up_merge _ _ _ h hm) (fun l hl => hL l (by simp [hl]))
    refine ⟨this.1, fun x => ?_⟩
    rw [List.foldl_cons, this.2, mem_or h hm]
    simp only [List.mem_cons, exists_eq_or_imp, or_assoc]
end Go.Proofs.YtdbifbgjbfnfmaaDoor
/-
  Layer 6 (post): a slice of integers in memory; the functions that only read one.
-/
namespace Go.Proofs.YtdbifbgjbfnfmaaDoor
open Go.RowKit Go.Deep
set_option linter.unusedVariables false
set_option linter.unusedSimpArgs false

/-- A slice of integers that was there. -/
def IAt (w : World) (A : Option Addr) (len cap : Nat) (l : List Int) : Prop :=
  len = l.length ∧ len ≤ cap ∧ ∀ i (h : i < l.length), (-9223372036854775808 ≤ l[i] ∧ l[i] ≤ 9223372036854775807) ∧
    ∃ ad, A = some ad ∧ (ad.add i).block < w.heap.size ∧ w.cell? (ad.add i) = some (.int .i64 l[i])
theorem IAt.below {w w' : World} {A : Option Addr} {len cap : Nat} {l : List Int} (h : IAt w A len cap l) (hb : Below w.heap.size w w') : IAt w' A len cap l :=
  ⟨h.1, h.2.1, fun i hi => by
    obtain ⟨h1, ad, rfl, h2, h3⟩ := h.2.2 i hi
    exact ⟨h1, ad, rfl, Nat.lt_of_lt_of_le h2 hb.size, (hb.cell (p := ad.add i) h2).trans h3⟩⟩
theorem IAt.nil (w : World) (A : Option Addr) (cap : Nat) : IAt w A 0 cap [] := ⟨rfl, Nat.zero_le _, fun i h => by simp at h⟩
theorem IAt.drewN {w : World} {A : Option Addr} {len cap : Nat} {l : List Int} (h : IAt w A len cap l) (n : Nat) : IAt (w.drewN n) A len cap l := h
theorem add_succ (a : Addr) (i : Nat) : a.add (i + 1) = ⟨a.block, a.off + (i + 1), none⟩ := rfl
/-- What is left of it behind its first one. -/
theorem IAt.tail {w : World} {ad : Addr} {n cap : Nat} {x : Int} {l : List Int} (h : IAt w (some ad) (n + 1) (cap + 1) (x :: l)) : IAt w (some (ad.add 1)) n cap l := by
  refine ⟨by have := h.1; simp at this; omega, by have := h.2.1; omega, fun i hi => ?_⟩
  obtain ⟨h1, ad', e, h2, h3⟩ := h.2.2 (i + 1) (by simp; omega)
  injection e with e
  subst e
  have ea : (ad.add 1).add i = ad.add (i + 1) := by
    cases i with
    | zero => rfl
    | succ i => simp [Addr.add]; omega
  refine ⟨by simpa using h1, _, rfl, ?_, ?_⟩
  · rw [ea]; exact h2
  · rw [ea]; simpa using h3
/-! a row of the call's own -/
def intC (l : List Int) : List Value := l.map (.int .i64)
theorem intC_append (l m : List Int) : intC (l ++ m) = intC l ++ intC m := by simp [intC]
structure NewI (B : Nat) (v : Value) (l : List Int) (w : World) : Prop where
  own : w.ownsRow B 3 1 v l.length (intC l)
  rng : ∀ x ∈ l, -9223372036854775808 ≤ x ∧ x ≤ 9223372036854775807
theorem NewI.alloc {B : Nat} {v : Value} {l : List Int} {w : World} (h : NewI B v l w) (o : Obj) : NewI B v l (w.alloc o) := ⟨h.own.alloc o, h.rng⟩
theorem NewI.keeps {B : Nat} {v : Value} {l : List Int} {F : List Nat} {w w' : World} (h : NewI B v l w) (hk : Keeps F w w') (hF : ∀ k, v.ownBlock = some k → k ∉ F) : NewI B v l w' := ⟨hk.row h.own hF, h.rng⟩
theorem NewI.below {B : Nat} {v : Value} {l : List Int} {w w' : World} (h : NewI B v l w) (hb : Below w.heap.size w w') : NewI B v l w' := h.keeps (F := []) (Keeps.below hb) (by simp)
theorem NewI.mono {B B' : Nat} {v : Value} {l : List Int} {w : World} (h : NewI B v l w) (hb : B' ≤ B) : NewI B' v l w := ⟨h.own.mono hb, h.rng⟩
theorem NewI.drewN {B : Nat} {v : Value} {l : List Int} {w : World} (h : NewI B v l w) (n : Nat) : NewI B v l (w.drewN n) := ⟨h.own, h.rng⟩
theorem NewI.nil (B : Nat) (w : World) : NewI B (.slice none 0 0) [] w := ⟨⟨rfl, .inl ⟨rfl, rfl⟩⟩, by simp⟩
/-- Its shape, and what it is to others. -/
theorem NewI.at {B : Nat} {v : Value} {l : List Int} {w : World} (h : NewI B v l w) : ∃ A cap, v = .slice A l.length cap ∧ IAt w A l.length cap l := by
  rcases h.own.2 with ⟨e, h0⟩ | ⟨g, c, cur, e, hg, hb, hc, _⟩
  · have : l = [] := List.length_eq_zero_iff.1 h0
    subst this
    exact ⟨none, 0, e, IAt.nil _ _ _⟩
  · refine ⟨_, _, e, rfl, hc, fun i hi => ⟨h.rng _ (List.getElem_mem hi), _, rfl, ?_, ?_⟩⟩
    · show ((⟨g, 0, none⟩ : Addr).add i).block < _
      have : ((⟨g, 0, none⟩ : Addr).add i).block = g := by unfold Addr.add; split <;> rfl
      rw [this]; exact lt_of_block hb
    · subst e
      have := h.own.cells (g := g) rfl i (.int .i64 l[i]) (by simp [intC, hi])
      exact this
theorem int_info : (Tryd.prog.info? 3).map (fun i => (i.zero, i.size, i.bytes)) = some (some (.int .i64 0), 1, 8) := by kernel_rfl
theorem IAt.congr {w : World} {A : Option Addr} {len cap : Nat} {l m : List Int} (h : IAt w A len cap l) (e : l = m) : IAt w A len cap m := e ▸ h
theorem refHas_c (A : Option Addr) (len cap : Nat) (l : List Int) (n : Int) (w : World) (hl : len ≤ 9223372036854775807) (hA : IAt w A len cap l) :
    Calls Tryd.prog 54 #[.slice A len cap, .int .i64 n] w fun e w' => e = .returned (.bool (decide (n ∈ l))) ∧ w = w' := by
  have hle := hA.1
  subst hle
  obtain ⟨R, hR⟩ : ∃ R, decide (n ∈ l) = R := ⟨_, rfl⟩
  rw [hR]
  have HR := Lib.hid hR
  clear hR
  go_enter Tryd.func54, Tryd.ntmps54
  go_wp2_with fail
  go_loopw [5] (fun c wr => ∃ i : Nat, i ≤ l.length ∧ c = .int .i64 i ∧ Hid (n ∉ l.take i) ∧ w = wr) (fun c _ => l.length - (intOf c).toNat)
  case atStart => exact ⟨0, Nat.zero_le _, rfl, (by simp : n ∉ l.take 0), rfl⟩
  case round =>
    obtain ⟨i, hi, rfl, HI, rfl⟩ := hrel
    by_cases hlt : i < l.length
    · obtain ⟨⟨r1, r2⟩, ad, rfl, h2, h3⟩ := hA.2.2 i hlt
      by_cases hq : l[i] = n
      · have t1 : (l[i] == n) = true := by simpa using hq
        have e : R = true := by rw [← HR.out, ← hq]; simp
        subst e
        clear hq
        go_wp2_with fail
        go_ret
        exact ⟨rfl, rfl⟩
      · have t1 : (l[i] == n) = false := by simpa using hq
        have HS : Hid (n ∉ l.take (i + 1)) := by
          show n ∉ _
          rw [List.take_succ_eq_append_getElem hlt, List.mem_append, not_or]
          exact ⟨HI.out, by simpa using fun h => hq h.symm⟩
        clear hq
        go_wp2_with fail
        go_roundw
        case rel => exact ⟨i + 1, by omega, by go_num, HS.out, by first | rfl | trivial⟩
        case measure => simp [intOf]; omega
    · obtain rfl : i = l.length := by omega
      have e : R = false := by rw [← HR.out]; have := HI.out; rw [List.take_length] at this; simpa using this
      subst e
      go_wp2_with fail
      go_ret
      exact ⟨rfl, rfl⟩
theorem isame_c (A A' : Option Addr) (len len' cap cap' : Nat) (l m : List Int) (w : World) (hl : l.length ≤ 9223372036854775807) (hm : m.length ≤ 9223372036854775807) (hA : IAt w A len cap l) (hB : IAt w A' len' cap' m) :
    Calls Tryd.prog 23 #[.slice A len cap, .slice A' len' cap'] w fun e w' => e = .returned (.bool (decide (l = m))) ∧ Below w.heap.size w w' := by
  have hle := hA.1
  have hme := hB.1
  subst hle hme
  by_cases hlen : l.length = m.length
  · obtain ⟨r, hr⟩ : ∃ r, decide (l = m) = r := ⟨_, rfl⟩
    rw [hr]
    have HR := Lib.hid hr
    clear hr
    go_enter Tryd.func23, Tryd.ntmps23
    go_wp2_with fail
    go_loopw [5] (fun c wr => ∃ i : Nat, i ≤ l.length ∧ c = .int .i64 i ∧ Hid (l.take i = m.take i) ∧ Below w.heap.size w wr) (fun c _ => l.length - (intOf c).toNat)
    case atStart => exact ⟨0, Nat.zero_le _, rfl, rfl, Below.refl _ _⟩
    case round =>
      obtain ⟨i, hi, rfl, heq, hb⟩ := hrel
      by_cases hlt : i < l.length
      · obtain ⟨⟨r1, r2⟩, ad, rfl, h2, h3⟩ := (hA.below hb).2.2 i hlt
        obtain ⟨⟨s1, s2⟩, ad', rfl, k2, k3⟩ := (hB.below hb).2.2 i (by omega)
        by_cases hq : l[i] = m[i]
        · have h5 : (l[i] == m[i]) = true := by rw [hq]; simp
          have HQ := Lib.hid hq
          clear hq
          go_wp2_with fail
          go_quiet (fail)
          go_wp2_with fail
          go_roundw
          case rel =>
            refine ⟨i + 1, by omega, by go_num, ?_, below_drewN hb _⟩
            show _ = _
            rw [List.take_succ_eq_append_getElem hlt, List.take_succ_eq_append_getElem (by omega), heq.out, HQ.out]
          case measure => simp [intOf]; omega
        · have he : decide (l = m) = false := by
            apply decide_eq_false
            rintro rfl
            exact hq rfl
          rw [HR.out] at he
          have HE := Lib.hid he
          clear he
          have h5 : (l[i] == m[i]) = false := by rw [beq_eq_false_iff_ne]; exact hq
          clear hq
          go_wp2_with fail
          go_quiet (fail)
          go_wp2_with fail
          go_ret
          exact ⟨ret_bool HE.out.symm, below_drewN hb _⟩
      · obtain rfl : i = l.length := by omega
        have he : decide (l = m) = true := by
          have h := heq.out
          rw [List.take_length, hlen, List.take_length] at h
          exact decide_eq_true h
        rw [HR.out] at he
        have HE := Lib.hid he
        clear he
        go_wp2_with fail
        go_ret
        exact ⟨ret_bool HE.out.symm, hb⟩
  · have he : decide (l = m) = false := by
      apply decide_eq_false; intro e; exact hlen (by rw [e])
    rw [he]
    go_enter Tryd.func23, Tryd.ntmps23
    go_wp2_with fail
    go_ret
    exact ⟨rfl, Below.refl _ _⟩
end Go.Proofs.YtdbifbgjbfnfmaaDoor
/-
  Layer 6 (post): an integer behind a row of the call's own; rising ones of a list; the document's And and Not.
-/
namespace Go.Proofs.YtdbifbgjbfnfmaaDoor
open Go.RowKit Go.Deep
set_option linter.unusedVariables false
set_option linter.unusedSimpArgs false

theorem app_one {ops : Array Oper} {rest : List Oper} {o : Oper} {a : Act} {Q : Exit → Act → World → Prop} {w w0 : World} (hgd : o.guard = none) (s x : Operand)
    (ho : o.op = .call { callee := .builtin .append, args := #[s, x], argTypes := #[40, 40] })
    {B : Nat} {v : Value} {l : List Int} (hs : a.eval s = v) (hN : NewI B v l w0) (n : Int) (hx : a.eval x = .slice (some ⟨w0.heap.size, 0, none⟩) 1 1) (hw : w = w0.alloc (.cells #[.int .i64 n] 3))
    (h1 : -9223372036854775808 ≤ n) (h2 : n ≤ 9223372036854775807) (hlen : l.length ≤ 100000) (hB : B ≤ w0.heap.size)
    (h : ∀ A cap w' L, Hid (L = l ++ [n]) → NewI B (.slice A L.length cap) L w' → Below B w0 w' → wpList Tryd.prog ops Q rest (a.put o.dst (.slice A L.length cap)) w') :
    wpList Tryd.prog ops Q (o :: rest) a w := by
  obtain ⟨i0, hi0, hz0, hz1, hz2⟩ := info_parts int_info
  subst hw
  refine wpList_append_own_at _ hgd s x 40 ho B 3 i0 (.int .i64 0) 1 8 Tryd.underlying40 hi0 hz0 hz1 hz2 rfl (by decide) v l.length _ hs (hN.own.alloc _) ⟨w0.heap.size, 0, none⟩ 1 1 [.int .i64 n] hx rfl (cell_one_new _ _ _) ?_ (by unfold maxLen; omega) (by omega) (by simp; omega) ?_
  · intro u hu; simp at hu; subst hu; rfl
  · intro v' w' hown hg _ _
    obtain ⟨A, cap, rfl⟩ := row_slice hown
    have e : (l ++ [n]).length = l.length + 1 := by simp
    rw [← e] at hown ⊢
    refine h A cap w' (l ++ [n]) rfl ⟨?_, ?_⟩ ?_
    · rw [intC_append]; exact hown
    · intro y hy
      rcases List.mem_append.1 hy with hy | hy
      · exact hN.rng y hy
      · simp at hy; subst hy; exact ⟨h1, h2⟩
    · exact (((Below.refl B w0).alloc hB _).grown hg (by simp; omega) (fun k hk => (hN.own.lt k hk).1))
theorem NewI.empty (w : World) (B : Nat) (hB : B ≤ w.heap.size) : NewI B (.slice (some ⟨w.heap.size, 0, none⟩) 0 0) [] (w.alloc (.cells #[] 3)) :=
  ⟨(World.ownsRow_made w #[] 0 (Nat.le_refl _) (by unfold maxLen; omega) rfl).mono hB, by simp⟩
theorem IAt.last {w : World} {A : Option Addr} {n cap : Nat} {l : List Int} (h : IAt w A n cap l) (hl : l ≠ []) :
    ∃ ad m y, A = some ad ∧ l.length = m + 1 ∧ (ad.add m).block < w.heap.size ∧ w.cell? (ad.add m) = some (.int .i64 y) ∧ l.getLast? = some y ∧ -9223372036854775808 ≤ y ∧ y ≤ 9223372036854775807 := by
  have hp := List.length_pos_iff.2 hl
  obtain ⟨⟨r1, r2⟩, ad, rfl, h1, h2⟩ := h.2.2 (l.length - 1) (by omega)
  exact ⟨ad, l.length - 1, _, rfl, by omega, h1, h2, by rw [List.getLast?_eq_getElem?, List.getElem?_eq_getElem], r1, r2⟩
end Go.Proofs.YtdbifbgjbfnfmaaDoor
/-
  Layer 7 (index): the document's Select.
-/
namespace Go.Proofs.YtdbifbgjbfnfmaaDoor
open Go.RowKit Go.Deep
attribute [local go_sem] str_size str_append str_toList str_get str_extract
set_option linter.unusedVariables false
set_option linter.unusedSimpArgs false
/-- Whom matchers mean. -/
def meant (X : Ix) (ms : List Mat) (i : Nat) : Bool := allL ms ((X[i]?).getD [])
def selN (X : Ix) (ms : List Mat) (n : Nat) : List Int := ((List.range n).filter (meant X ms)).map Int.ofNat
def chkAll (ms : List Mat) : Bool := ms.all chkL
def selX (X : Ix) (ms : List Mat) : List Int := if chkAll ms = true then selN X ms X.length else []
theorem meant_at {X : Ix} {ms : List Mat} {i : Nat} (h : i < X.length) : meant X ms i = allL ms X[i] := by unfold meant; simp [h]
theorem selN_next (X : Ix) (ms : List Mat) (n : Nat) : selN X ms (n + 1) = selN X ms n ++ if meant X ms n = true then [(n : Int)] else [] := by
  unfold selN
  rw [List.range_succ, List.filter_append, List.map_append]
  cases h : meant X ms n <;> simp [h]
theorem selN_len (X : Ix) (ms : List Mat) (n : Nat) : (selN X ms n).length ≤ n := by
  unfold selN; rw [List.length_map]; exact Nat.le_trans (List.length_filter_le _ _) (by simp)
theorem selN_mem {X : Ix} {ms : List Mat} {n : Nat} {x : Int} : x ∈ selN X ms n ↔ ∃ i : Nat, i < n ∧ x = i ∧ meant X ms i = true := by
  unfold selN
  simp only [List.mem_map, List.mem_filter, List.mem_range]
  constructor
  · rintro ⟨i, ⟨h1, h2⟩, rfl⟩; exact ⟨i, h1, rfl, h2⟩
  · rintro ⟨i, h1, rfl, h2⟩; exact ⟨i, ⟨h1, h2⟩, rfl⟩
theorem selN_up (X : Ix) (ms : List Mat) (n : Nat) : Up (selN X ms n) := by
  induction n with
  | zero => simp [selN]
  | succ n ih =>
    rw [selN_next]
    split
    · exact up_snoc ih fun y hy => by obtain ⟨i, h1, rfl, _⟩ := selN_mem.1 hy; omega
    · simpa using ih
theorem smallM_of {m : Mat} (h : SmallM m) : smallM m := ⟨by have := h.1; omega, by have := h.2.1; omega, by have := h.2.2.1; omega, fun x hx => by have := h.2.2.2 x hx; omega⟩
/-- What a call that selects answers. -/
def GivesI (R : List Int) (E : Int) (e : Ending) (w' : World) : Prop := ∃ A1 c1, e = .returned (.tuple #[.slice A1 R.length c1, .int .i64 E]) ∧ NewI 0 (.slice A1 R.length c1) R w'
set_option maxRecDepth 100000 in
set_option maxHeartbeats 1000000 in
theorem refSelect_c (F : List Nat) (p : Nat) (X : Ix) (A : Option Addr) (len cap : Nat) (ms : List Mat) (w : World) (h : RefX F p X w) (hA : MsAt w A len ms) (hm : SmallMs ms) :
    Calls Tryd.prog 22 #[.pointer (some ⟨p, 0, none⟩), .slice A len cap] w fun e w' => GivesI (selX X ms) (eM (chkAll ms)) e w' ∧ Below w.heap.size w w' := by
  have hle := hA.1
  subst hle
  obtain ⟨B, c, h1, h2⟩ := h.at
  have hc := blk_cell h1 0
  simp only [List.getElem?_toArray, List.getElem?_cons_zero] at hc
  have hX := h.good.few
  have hok := Lib.hid h.good.ok
  have HC := Lib.hid (fun (W : World) (hW : Below w.heap.size w W) => (hW.cell (p := ⟨p, 0, none⟩) (lt_of_block h1)).trans hc)
  have h20 := hm.1
  have CK := Lib.hid (fun m A cap W (hm : SmallM m) hS => mrefCheck_c m A cap W (smallM_of hm) hS)
  have CA := Lib.hid (fun B l cap' W hM (hB : LAt W B l.length l) (ho : okL l = true) => refAll_c A ms.length cap ms B l.length cap' l W (by omega) hM (by have := (labs_small ho).1; omega) hB (fun x hx => by have := okL_32 ho x hx; omega))
  obtain ⟨R, hR⟩ : ∃ R, selX X ms = R := ⟨_, rfl⟩
  obtain ⟨E, hE⟩ : ∃ R, eM (chkAll ms) = R := ⟨_, rfl⟩
  rw [hR, hE]
  have HRE := Lib.hid (And.intro hR hE)
  have HM := Lib.hid hm
  clear hR hE hm h1 hc h
  go_enter Tryd.func22, Tryd.ntmps22
  go_wp2_with fail
  go_loopw [6] (fun c wr => ∃ i : Nat, i ≤ ms.length ∧ c = .int .i64 i ∧ Hid (∀ m ∈ ms.take i, chkL m = true) ∧ Below w.heap.size w wr) (fun c _ => ms.length - (intOf c).toNat)
  case atStart => exact ⟨0, Nat.zero_le _, rfl, by show ∀ _, _; simp, Below.refl _ _⟩
  case round =>
    obtain ⟨i, hi, rfl, HK, hb⟩ := hrel
    have hbs := hb.size
    by_cases hlt : i < ms.length
    · obtain ⟨⟨r1, r2, r3, r4, r5⟩, ad, rfl, k2, k3, k4, k5, S, c5, k6, k7⟩ := (hA.below hb).2 i hlt
      have hnx := fun h1 h2 => mem_take_next (P := fun m => chkL m = true) hlt h1 h2
      have hs := HM.out.2 _ (List.getElem_mem hlt)
      have hmem : ms[i] ∈ ms := List.getElem_mem hlt
      obtain ⟨m, hm⟩ : ∃ m, ms[i]'hlt = m := ⟨_, rfl⟩
      rw [hm] at r1 r2 r3 r4 r5 k3 k4 k5 k6 k7 hnx hs hmem
      have ck := CK.out m S c5 wr hs k7
      cases hcm : chkL m with
      | true =>
        rw [hcm] at ck
        have CKh := Lib.hid ck
        have HX := Lib.hid (hnx HK.out hcm)
        clear ck hnx hm hs k7 hcm hmem
        go_wp2_with fail
        refine CKh.out.mono ?_
        rintro e w1 ⟨rfl, hb1⟩
        have hb1 := below2 hb hb1 hbs
        go_wp2_with fail
        go_roundw
        case rel => exact ⟨i + 1, by omega, by go_num, HX.out, hb1⟩
        case measure => simp [intOf]; omega
      | false =>
        rw [hcm] at ck
        have CKh := Lib.hid ck
        have hf : chkAll ms = false := by
          unfold chkAll
          rw [Bool.eq_false_iff]
          intro ht
          rw [List.all_eq_true] at ht
          have := ht m hmem
          rw [hcm] at this
          cases this
        have e1 : R = [] := by rw [← HRE.out.1]; unfold selX; rw [hf]; rfl
        have e2 : E = 50 := by rw [← HRE.out.2, hf]; rfl
        have HE := Lib.hid (And.intro e1 e2)
        clear ck hnx hm hs k7 hcm hmem hf e1 e2
        go_wp2_with fail
        refine CKh.out.mono ?_
        rintro e w1 ⟨rfl, hb1⟩
        have hb1 := below2 hb hb1 hbs
        go_wp2_with fail
        go_ret2
        exact ⟨⟨none, 0, by rw [HE.out.1, HE.out.2]; rfl, by rw [HE.out.1]; exact NewI.nil _ _⟩, hb1⟩
    · obtain rfl : i = ms.length := by omega
      have hall : chkAll ms = true := by
        unfold chkAll
        rw [List.all_eq_true]
        have := HK.out
        rwa [List.take_length] at this
      have e1 : selN X ms X.length = R := by rw [← HRE.out.1]; unfold selX; rw [if_pos hall]
      have e2 : E = 0 := by rw [← HRE.out.2, hall]; rfl
      have HE := Lib.hid (And.intro e1 e2)
      clear hall e1 e2
      obtain ⟨wo, rfl⟩ : ∃ wo : World, wo = wr := ⟨_, rfl⟩
      go_wp2_with fail
      go_loopw [8, 9] (fun v c wr => ∃ (i : Nat) (out : List Int) (A1 : Option Addr) (cap1 : Nat), i ≤ X.length ∧ c = .int .i64 i ∧ v = .slice A1 out.length cap1 ∧ NewI w.heap.size (.slice A1 out.length cap1) out wr ∧ Hid (out = selN X ms i) ∧ Below w.heap.size w wr) (fun _ c _ => X.length - (intOf c).toNat)
      case atStart => exact ⟨0, [], _, _, Nat.zero_le _, rfl, rfl, NewI.empty wo _ hb.size, by show _ = _; simp [selN], hb.alloc hb.size _⟩
      case round =>
        clear hb hbs HK
        obtain ⟨i, out, A1, cap1, hi, rfl, rfl, hN, HO, hb⟩ := hrel
        have hbs := hb.size
        have hc := HC.out _ hb
        by_cases hlt : i < X.length
        · obtain ⟨ad, Ai, ci, rfl, k2, k3, k4, k5⟩ := h2.2.2 i hlt
          have k3 := (hb.cell (p := ad.add i) k2).trans k3
          have ho := hok.out _ (List.getElem_mem hlt)
          have hst := selN_next X ms i
          rw [← HO.out, meant_at hlt] at hst
          have hol : out.length ≤ 200 := by rw [HO.out]; have := selN_len X ms i; omega
          obtain ⟨l, hl⟩ : ∃ l, X[i]'hlt = l := ⟨_, rfl⟩
          rw [hl] at k3 k4 hst ho
          have ca := CA.out Ai l ci wr (hA.below hb) (k4.below hb) ho
          have HN := Lib.hid hN
          cases hq : allL ms l with
          | true =>
            rw [hq] at ca
            rw [if_pos hq] at hst
            have CAh := Lib.hid ca
            have HS := Lib.hid hst
            clear ca hst hl k4 k5 ho hN hq
            go_wp2_with fail
            refine CAh.out.mono ?_
            rintro e w1 ⟨rfl, hb1⟩
            have HN1 := Lib.hid (HN.out.below hb1)
            have hb2 := below2 hb hb1 hbs
            have hb2s := hb2.size
            go_wp2_with (at_builtin; refine app_one rfl (.tmp 43) (.tmp 45) rfl rfl HN1.out (i : Int) rfl rfl (by omega) (by omega) (by omega) hb2s ?c1)
            case c1 =>
              intro A2 cap2 w2 L HL hN2 hb3
              have HN2 := Lib.hid hN2
              have hb3 := hb2.trans hb3
              clear hN2 k3
              go_wp2_with fail
              go_roundw
              case rel => exact ⟨i + 1, L, A2, cap2, by omega, by go_num, rfl, HN2.out, by show _ = _; rw [HL.out, HS.out], hb3⟩
              case measure => simp [intOf]; omega
          | false =>
            rw [hq] at ca
            rw [hq] at hst
            have CAh := Lib.hid ca
            have HS := Lib.hid hst
            clear ca hst hl k4 k5 ho hN hq
            go_wp2_with fail
            refine CAh.out.mono ?_
            rintro e w1 ⟨rfl, hb1⟩
            have HN1 := Lib.hid (HN.out.below hb1)
            have hb2 := below2 hb hb1 hbs
            go_wp2_with fail
            go_roundw
            case rel => exact ⟨i + 1, out, A1, cap1, by omega, by go_num, rfl, HN1.out, by show _ = _; rw [HS.out]; exact (List.append_nil _).symm, hb2⟩
            case measure => simp [intOf]; omega
        · obtain rfl : i = X.length := by omega
          have HE2 : Hid (out = R) := HO.out.trans HE.out.1
          have HN := Lib.hid hN
          clear hN
          go_wp2_with fail
          go_ret2
          exact ⟨⟨A1, cap1, by rw [← HE2.out, HE.out.2]; rfl, by rw [← HE2.out]; exact HN.out.mono (Nat.zero_le _)⟩, hb⟩
end Go.Proofs.YtdbifbgjbfnfmaaDoor
/-
  Layer 7 (index): rows of texts of the call's own; the document's put, Same, Names and Values.
-/
namespace Go.Proofs.YtdbifbgjbfnfmaaDoor
open Go.RowKit Go.Deep
attribute [local go_sem] str_size str_append str_toList str_get str_extract
set_option linter.unusedVariables false
set_option linter.unusedSimpArgs false
theorem getL_short {l : List Lab} (h : okL l = true) (n : Txt) : (getL l n).length ≤ 4096 := by
  have h2 := okL_32 h
  clear h
  induction l with
  | nil => simp [getL]
  | cons x r ih =>
    unfold getL
    split
    · have := h2 x (by simp); omega
    · exact ih (fun y hy => h2 y (by simp [hy]))
def txtC (l : List Txt) : List Value := l.map fun s => .string (str s)
theorem txtC_append (l m : List Txt) : txtC (l ++ m) = txtC l ++ txtC m := by simp [txtC]
/-- A row of texts of the call's own. -/
structure TRow (w : World) (A : Option Addr) (cap : Nat) (l : List Txt) : Prop where
  own : w.ownsRow 0 9 1 (.slice A l.length cap) l.length (txtC l)
  rng : ∀ x ∈ l, x.length ≤ 4096
theorem TRow.below {w w' : World} {A : Option Addr} {cap : Nat} {l : List Txt} (h : TRow w A cap l) (hb : Below w.heap.size w w') : TRow w' A cap l := ⟨(Keeps.below (F := []) hb).row h.own (by simp), h.rng⟩
theorem TRow.drewN {w : World} {A : Option Addr} {cap : Nat} {l : List Txt} (h : TRow w A cap l) (n : Nat) : TRow (w.drewN n) A cap l := ⟨h.own, h.rng⟩
theorem TRow.empty (w : World) : TRow (w.alloc (.cells #[] 9)) (some ⟨w.heap.size, 0, none⟩) 0 [] :=
  ⟨(World.ownsRow_made (e := 9) (size := 1) w #[] 0 (Nat.le_refl _) (by unfold maxLen; omega) rfl).mono (Nat.zero_le _), by simp⟩
theorem TRow.nil (w : World) : TRow w none 0 [] := ⟨⟨rfl, .inl ⟨rfl, rfl⟩⟩, by simp⟩
/-- What it is to others. -/
theorem TRow.at {w : World} {A : Option Addr} {cap : Nat} {l : List Txt} (h : TRow w A cap l) : ∀ i (h : i < l.length), l[i].length ≤ 4096 ∧ ∃ ad, A = some ad ∧ (ad.add i).block < w.heap.size ∧ w.cell? (ad.add i) = some (.string (str l[i])) := by
  intro i hi
  rcases h.own.2 with ⟨e, h0⟩ | ⟨g, c, cur, e, hg, hb, hc, _⟩
  · omega
  · injection e with e1 e2 e3
    subst e1
    refine ⟨h.rng _ (List.getElem_mem hi), _, rfl, ?_, ?_⟩
    · have : ((⟨g, 0, none⟩ : Addr).add i).block = g := by unfold Addr.add; split <;> rfl
      rw [this]; exact lt_of_block hb
    · exact h.own.cells (g := g) rfl i (.string (str l[i])) (by simp [txtC, hi])
theorem str_info7 : (Tryd.prog.info? 9).map (fun i => (i.zero, i.size, i.bytes)) = some (some (.string (str [])), 1, 16) := by kernel_rfl
theorem app_txt {ops : Array Oper} {rest : List Oper} {o : Oper} {a : Act} {Q : Exit → Act → World → Prop} {w w0 : World} (hgd : o.guard = none) (s x : Operand)
    (ho : o.op = .call { callee := .builtin .append, args := #[s, x], argTypes := #[45, 45] })
    {B : Nat} {A : Option Addr} {cap : Nat} {l : List Txt} (hs : a.eval s = .slice A l.length cap) (hN : TRow w0 A cap l) (hF : ∀ k, (Value.slice A l.length cap).ownBlock = some k → B ≤ k) (n : Txt) (hx : a.eval x = .slice (some ⟨w0.heap.size, 0, none⟩) 1 1) (hw : w = w0.alloc (.cells #[.string (str n)] 9))
    (h1 : n.length ≤ 4096) (hlen : l.length ≤ 100000) (hB : B ≤ w0.heap.size)
    (h : ∀ A' cap' w' L, Hid (L = l ++ [n]) → TRow w' A' cap' L → (∀ k, (Value.slice A' L.length cap').ownBlock = some k → B ≤ k) → Below B w0 w' → wpList Tryd.prog ops Q rest (a.put o.dst (.slice A' L.length cap')) w') :
    wpList Tryd.prog ops Q (o :: rest) a w := by
  obtain ⟨i0, hi0, hz0, hz1, hz2⟩ := info_parts str_info7
  subst hw
  refine wpList_append_own_at _ hgd s x 45 ho 0 9 i0 (.string (str [])) 1 16 Tryd.underlying45 hi0 hz0 hz1 hz2 rfl (by decide) (.slice A l.length cap) l.length _ hs (hN.own.alloc _) ⟨w0.heap.size, 0, none⟩ 1 1 [.string (str n)] hx rfl (cell_one_new _ _ _) ?_ (by unfold maxLen; omega) (by omega) (Nat.zero_le _) ?_
  · intro u hu; simp at hu; subst hu; rfl
  · intro v' w' hown hg _ hat
    obtain ⟨A', cap', rfl⟩ := row_slice hown
    have e : (l ++ [n]).length = l.length + 1 := by simp
    rw [← e] at hown hat ⊢
    refine h A' cap' w' (l ++ [n]) rfl ⟨?_, ?_⟩ ?_ ?_
    · rw [txtC_append]; exact hown
    · intro y hy
      rcases List.mem_append.1 hy with hy | hy
      · exact hN.rng y hy
      · simp at hy; subst hy; exact h1
    · intro k hk
      rcases hat with e | e
      · rw [e] at hk; exact hF k hk
      · rw [e] at hk; injection hk with hk; simp at hk; omega
    · exact (((Below.refl B w0).alloc hB _).grown hg (by simp; omega) (fun k hk => hF k hk))
end Go.Proofs.YtdbifbgjbfnfmaaDoor
