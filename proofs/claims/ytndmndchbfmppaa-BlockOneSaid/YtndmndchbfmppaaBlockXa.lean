/-
  Layer 9 (block): the program's disk: Size, Dead, Calls, Power, Cut, check, last, pair.
-/
import Derived.Test.YtndmndchbfmppaaBlockXMem
import Derived.Test.YtndmndchbfmppaaBlockRef
import Derived.Test.YtndmndchbfmppaaBlockStep
import Derived.Laws.Bits64b
namespace Go.Proofs.Ytndmndchbfmppaa
open Go.RowKit Go.Deep
attribute [local go_sem] str_size str_append str_toList str_get str_extract
set_option linter.unusedVariables false
set_option linter.unusedSimpArgs false
set_option linter.unusedSectionVars false
theorem bSize_c (F : List Nat) (q : Nat) (S : DSt) (w : World) (h : IsB F q S w) (hf : Fit S 900000) : Calls Try.prog 11 #[.pointer (some ⟨q, 0, none⟩)] w fun e w' => e = .returned (.int .i64 (S.n : Int)) ∧ Below w.heap.size w w' := by
  obtain ⟨bm, bk, vs, D, nn, lv, hb, -⟩ := h
  have c := hb.cN
  clear hb hf
  go_enter Try.func11, Try.ntmps11
  go_wp2_with fail
  go_ret
  exact ⟨rfl, Below.refl _ _⟩
section
variable (F : List Nat) (q : Nat) (S : DSt) (w : World) (h : IsB F q S w) (hf : Fit S 900000)
include h hf
theorem bDead_c : Calls Try.prog 13 #[.pointer (some ⟨q, 0, none⟩)] w fun e w' => e = .returned (.bool S.gone) ∧ Below w.heap.size w w' := by
  obtain ⟨bm, bk, vs, D, nn, lv, hb, -⟩ := h
  have c := hb.cG
  clear hb hf
  go_enter Try.func13, Try.ntmps13
  go_wp2_with fail
  go_ret
  exact ⟨rfl, Below.refl _ _⟩
theorem bCalls_c : Calls Try.prog 14 #[.pointer (some ⟨q, 0, none⟩)] w fun e w' => e = .returned (.int .i64 (S.calls : Int)) ∧ Below w.heap.size w w' := by
  obtain ⟨bm, bk, vs, D, nn, lv, hb, -⟩ := h
  have c := hb.cC
  clear hb hf
  go_enter Try.func14, Try.ntmps14
  go_wp2_with fail
  go_ret
  exact ⟨rfl, Below.refl _ _⟩
theorem bPower_c : Calls Try.prog 15 #[.pointer (some ⟨q, 0, none⟩)] w fun e w' => e = .returned (.tuple #[]) ∧ DidB F q (powerD S) w w' := by
  obtain ⟨bm, bk, vs, D, nn, lv, hb, hn⟩ := h
  have c := hb.cG
  have c2 := hb.cL
  have f1 := hb.fr 514
  have f2 := hb.fr 516
  have hst := ((hb.st.set 514 (.bool false)).set 516 (.int .i64 0)).congr (g := cellsB S.is bm S.n false S.calls 0 S.keep) (fun i hi => by
    unfold cellsB
    by_cases e1 : i = 516
    · subst e1; simp
    · by_cases e2 : i = 514
      · subst e2; simp
      · rw [if_neg e1, if_neg e2]; simp [e1, e2])
  have hK : Keeps [q] w ((w.setCell ⟨q, 514, none⟩ (.bool false)).setCell ⟨q, 516, none⟩ (.int .i64 0)) := ((Keeps.refl [q] w).setCell (.inl (by simp)) _).setCell (.inl (by simp)) _
  have hB := hb.setq hK S.is false 0 0 S.keep S.calls hst hb.il (by omega) (by omega) hb.rk (fun _ => rfl)
  have hD : DidB F q (powerD S) w ((w.setCell ⟨q, 514, none⟩ (.bool false)).setCell ⟨q, 516, none⟩ (.int .i64 0)) :=
    (DidB.of (X := [q]) (F := F) (fun k hk => .inl (by simp at hk; subst hk; exact hb.qF)) hK ⟨bm, bk, vs, D, nn, 0, hB, hn⟩).to (Nat.le_refl _)
  have HD := Lib.hid hD
  clear hst hK hB hD hb hn hf
  go_enter Try.func15, Try.ntmps15
  go_wp2_with fail
  go_end0
  exact ⟨rfl, HD.out⟩
theorem bCut_c (n : Int) (keep : Nat) (h1 : -9223372036854775808 ≤ n) (h2 : n ≤ 9223372036854775807) (hk : keep < 18446744073709551616) :
    Calls Try.prog 22 #[.pointer (some ⟨q, 0, none⟩), .int .i64 n, .int .u64 keep] w fun e w' => e = .returned (.tuple #[]) ∧ DidB F q (cutD S n keep) w w' := by
  obtain ⟨bm, bk, vs, D, nn, lv, hb, hn⟩ := h
  obtain ⟨m, hm⟩ : ∃ m, n.toNat = m := ⟨_, rfl⟩
  have d1 : max n 0 = (m : Int) := by omega
  have c := hb.cL
  have c2 := hb.cK
  have f1 := hb.fr 516
  have f2 := hb.fr 517
  have hst := ((hb.st.set 516 (.int .i64 (m : Int))).set 517 (.int .u64 (keep : Int))).congr (g := cellsB S.is bm S.n S.gone S.calls m keep) (fun i hi => by
    unfold cellsB
    by_cases e1 : i = 517
    · subst e1; simp
    · by_cases e2 : i = 516
      · subst e2; simp
      · rw [if_neg e1, if_neg e2]
        have e3 : ¬ 517 ≤ i := by omega
        by_cases h1 : i < 512
        · simp [h1]
        · by_cases h2 : i = 512
          · simp [h2]
          · by_cases h3 : i = 513
            · simp [h3]
            · by_cases h4 : i = 514
              · simp [h4]
              · have h5 : i = 515 := by omega
                simp [h5])
  have hK : Keeps [q] w ((w.setCell ⟨q, 516, none⟩ (.int .i64 (m : Int))).setCell ⟨q, 517, none⟩ (.int .u64 (keep : Int))) := ((Keeps.refl [q] w).setCell (.inl (by simp)) _).setCell (.inl (by simp)) _
  have hB := hb.setq hK S.is S.gone m m keep S.calls hst hb.il (by omega) (by omega) hk (fun _ => rfl)
  have e : cutD S n keep = { S with is := S.is, gone := S.gone, left := m, keep := keep, calls := S.calls } := by unfold cutD; rw [hm]
  have hD : DidB F q (cutD S n keep) w ((w.setCell ⟨q, 516, none⟩ (.int .i64 (m : Int))).setCell ⟨q, 517, none⟩ (.int .u64 (keep : Int))) := by
    rw [e]
    exact (DidB.of (X := [q]) (F := F) (fun k hk => .inl (by simp at hk; subst hk; exact hb.qF)) hK ⟨bm, bk, vs, D, nn, m, hB, hn⟩).to (Nat.le_refl _)
  have HD := Lib.hid hD
  clear hst hK hB hD hb hn hf e hm
  go_enter Try.func22, Try.ntmps22
  go_wp2_with fail
  go_end0
  exact ⟨rfl, HD.out⟩
end
/-- What is wrong with looking at a sector. -/
def checkD (S : DSt) (i : Int) : Int := if S.gone = true then 90 else if i < 0 ∨ (S.n : Int) ≤ i then 91 else 0
theorem bCheck_c (F : List Nat) (q : Nat) (S : DSt) (c : Nat) (w : World) (h : IsBc F q S c w) (i : Int) (h1 : -9223372036854775808 ≤ i) (h2 : i ≤ 9223372036854775807) :
    Calls Try.prog 27 #[.pointer (some ⟨q, 0, none⟩), .int .i64 i] w fun e w' => e = .returned (.int .i64 (checkD S i)) ∧ w = w' := by
  obtain ⟨bm, bk, vs, D, nn, lv, hb, -⟩ := h
  have c1 := hb.cG
  have c2 := hb.cN
  clear hb
  obtain ⟨r, hr⟩ : ∃ r, checkD S i = r := ⟨_, rfl⟩
  rw [hr]
  unfold checkD at hr
  obtain ⟨N, hN⟩ : ∃ N, S.n = N := ⟨_, rfl⟩
  obtain ⟨g, hg⟩ : ∃ g, S.gone = g := ⟨_, rfl⟩
  rw [hg, hN] at hr
  rw [hg] at c1
  rw [hN] at c2
  clear hg hN
  by_cases hgone : g = true
  · subst hgone
    rw [if_pos rfl] at hr
    subst hr
    go_enter Try.func27, Try.ntmps27
    go_wp2_with fail
    go_ret
    exact ⟨rfl, rfl⟩
  obtain rfl : g = false := by simpa using hgone
  rw [if_neg (by simp)] at hr
  clear hgone
  by_cases hneg : i < 0
  · rw [if_pos (.inl hneg)] at hr
    subst hr
    go_enter Try.func27, Try.ntmps27
    go_wp2_with fail
    go_ret
    exact ⟨rfl, rfl⟩
  by_cases hbig : (N : Int) ≤ i
  · rw [if_pos (.inr hbig)] at hr
    subst hr
    go_enter Try.func27, Try.ntmps27
    go_wp2_with fail
    go_ret
    exact ⟨rfl, rfl⟩
  · rw [if_neg (by omega)] at hr
    subst hr
    go_enter Try.func27, Try.ntmps27
    go_wp2_with fail
    go_ret
    exact ⟨rfl, rfl⟩
theorem bLast_c (A : Option Addr) (len cap : Nat) (l : List Byts) (w : World) (hA : TsAt w A len cap l) (hne : l ≠ []) (hlen : l.length ≤ 1000000) :
    Calls Try.prog 29 #[.slice A len cap] w fun e w' => e = .returned (.string (str (l.getLastD []))) ∧ w = w' := by
  have hle := hA.1
  subst hle
  have hp := List.length_pos_iff.2 hne
  obtain ⟨M, hM⟩ : ∃ M, l.length = M := ⟨_, rfl⟩
  obtain ⟨m, hm⟩ : ∃ m, M - 1 = m := ⟨_, rfl⟩
  have m2 : m < M := by omega
  have m1 : (M : Int) - 1 = (m : Int) := by omega
  obtain ⟨r, hr⟩ : ∃ r, l.getLastD [] = r := ⟨_, rfl⟩
  rw [hr]
  rw [lastD_cons hne] at hr
  have e : l.length - 1 = m := by omega
  simp only [e] at hr
  obtain ⟨-, ad, rfl, k2, k3⟩ := hA.2.2 m (by omega)
  rw [hr] at k3
  rw [hM] at hlen ⊢
  clear hr e hA hM hne hm hp
  go_enter Try.func29, Try.ntmps29
  go_wp2_with fail
  go_ret
  exact ⟨rfl, rfl⟩
theorem bPair_c (keep j : Nat) (w : World) (hk : keep < 18446744073709551616) (hj : j ≤ 1000000) :
    Calls Try.prog 34 #[.int .u64 keep, .int .i64 j] w fun e w' => e = .returned (.int .i64 ((keep / 2 ^ (2 * (j % 32)) % 4 : Nat) : Int)) ∧ w = w' := by
  obtain ⟨ex, hex⟩ : ∃ ex, 2 * (j % 32) = ex := ⟨_, rfl⟩
  obtain ⟨z, hz⟩ : ∃ z, keep / 2 ^ ex = z := ⟨_, rfl⟩
  obtain ⟨y, hy⟩ : ∃ y, z % 4 = y := ⟨_, rfl⟩
  rw [hex, hz, hy]
  have hexl : ex < 64 := by omega
  have e1 : (2 : Int) * ((j : Int) % 32) = (ex : Int) := by omega
  have e2 : (keep : Int) / 2 ^ ex = (z : Int) := by rw [← hz]; simp
  have hzk : z ≤ keep := by rw [← hz]; exact Nat.div_le_self _ _
  have e3 : bits .and .u64 (z : Int) 3 = (y : Int) := by
    rw [← hy]
    have h := bits_and_u64_nat z 3 (by omega) (by omega)
    have e : z &&& 3 = z % 4 := Nat.and_two_pow_sub_one_eq_mod z 2
    rw [e] at h
    exact h
  have hyl : y < 4 := by omega
  clear hex hz hy
  go_enter Try.func34, Try.ntmps34
  go_wp2_with fail
  go_ret
  exact ⟨rfl, rfl⟩
end Go.Proofs.Ytndmndchbfmppaa
