/-
  Layer 6 (post): the law PostHas returns true.
-/
import Derived.Test.YtalhjejbaembbaaPostUse
namespace Go.Proofs.Ytalhjejbaembbaa
open Go.RowKit Go.Deep
set_option linter.unusedVariables false
set_option linter.unusedSimpArgs false
theorem row_one (w : World) (n : Int) (h1 : -9223372036854775808 ≤ n) (h2 : n ≤ 9223372036854775807) : Row (w.alloc (.cells #[.int .i64 n] 3)) (some ⟨w.heap.size, 0, none⟩) 1 [n] :=
  ⟨⟨rfl, .inr ⟨w.heap.size, 1, #[.int .i64 n], rfl, Nat.zero_le _, heap_alloc_new w _, Nat.le_refl _, by unfold maxLen; omega, rfl, rfl⟩⟩, by intro x hx; simp at hx; subst hx; exact ⟨h1, h2⟩⟩
theorem wf_in {z : Int} (h : (Lit.int .i64 z).wf = true) : -9223372036854775808 ≤ z ∧ z ≤ 9223372036854775807 := by
  have e : IntKind.i64.min = -9223372036854775808 := by decide
  unfold Lit.wf at h
  simp at h
  omega
theorem refHas_v {A : Option Addr} {cap : Nat} {l : List Int} {n : Int} {b : Bool} {w : World} (hR : decide (n ∈ l) = b) (hl : l.length ≤ 10000) (hA : Row w A cap l) :
    Calls Try.prog 19 #[.slice A l.length cap, .int .i64 n] w fun e w' => e = .returned (.bool b) ∧ Below w.heap.size w w' := by
  subst hR
  refine (refHas_c A l.length cap l n w (by omega) hA.at).mono ?_
  rintro e w1 ⟨he, rfl⟩
  exact ⟨he, Below.refl _ _⟩
set_option maxRecDepth 100000 in
set_option maxHeartbeats 2000000 in
theorem law_PostHas (a0 : Option Addr) (len0 cap0 : Nat) (z0 : List Int) (a1 : Option Addr) (len1 cap1 : Nat) (z1 : List Int) (a2 : Int) (w : World) (hl0 : len0 ≤ maxLen) (w0 : IAt w a0 len0 cap0 z0) (hl1 : len1 ≤ maxLen) (w1 : IAt w a1 len1 cap1 z1) (w2 : (Lit.int .i64 a2).wf = true) :
    Calls Try.prog 4 #[.slice a0 len0 cap0, .slice a1 len1 cap1, .int .i64 a2] w fun e w' => e = .returned (.bool true) ∧ Below w.heap.size w w' := by
  unfold maxLen at hl0 hl1
  by_cases h0 : 4096 < (len0 : Int)
  · go_enter Try.func4, Try.ntmps4
    go_wp2
    go_ret
    exact ⟨rfl, Below.refl _ _⟩
  have t0 : decide (4096 < (len0 : Int)) = false := by simpa using h0
  by_cases h1 : 4096 < (len1 : Int)
  · clear h0
    go_enter Try.func4, Try.ntmps4
    go_wp2
    go_ret
    exact ⟨rfl, Below.refl _ _⟩
  have t1 : decide (4096 < (len1 : Int)) = false := by simpa using h1
  obtain ⟨X, dX⟩ : ∃ L, risL z0 = L := ⟨_, rfl⟩
  have uX : Up X := dX ▸ up_risL z0
  have lX : X.length ≤ 200 := dX ▸ len_risL z0
  obtain ⟨Y, dY⟩ : ∃ L, risL z1 = L := ⟨_, rfl⟩
  have uY : Up Y := dY ▸ up_risL z1
  have lY : Y.length ≤ 200 := dY ▸ len_risL z1
  obtain ⟨P, dP⟩ : ∃ L, mergeL fAnd X Y = L := ⟨_, rfl⟩
  have uP : Up P := dP ▸ up_merge _ X Y uX uY
  have lP : P.length ≤ 400 := by have := len_merge (fAnd) X Y; rw [dP] at this; omega
  have mP : ∀ x, x ∈ P ↔ x ∈ X ∧ x ∈ Y := fun x => by rw [← dP, mem_and uX uY]
  obtain ⟨Q, dQ⟩ : ∃ L, mergeL fOr X Y = L := ⟨_, rfl⟩
  have uQ : Up Q := dQ ▸ up_merge _ X Y uX uY
  have lQ : Q.length ≤ 400 := by have := len_merge (fOr) X Y; rw [dQ] at this; omega
  have mQ : ∀ x, x ∈ Q ↔ x ∈ X ∨ x ∈ Y := fun x => by rw [← dQ, mem_or uX uY]
  obtain ⟨R, dR⟩ : ∃ L, mergeL fNot X Y = L := ⟨_, rfl⟩
  have uR : Up R := dR ▸ up_merge _ X Y uX uY
  have lR : R.length ≤ 400 := by have := len_merge (fNot) X Y; rw [dR] at this; omega
  have mR : ∀ x, x ∈ R ↔ x ∈ X ∧ x ∉ Y := fun x => by rw [← dR, mem_not uX uY]
  obtain ⟨p, hp⟩ : ∃ b, decide (a2 ∈ X) = b := ⟨_, rfl⟩
  obtain ⟨q, hq⟩ : ∃ b, decide (a2 ∈ Y) = b := ⟨_, rfl⟩
  have e1 : decide (a2 ∈ P) = (p && q) := by rw [← hp, ← hq, Bool.eq_iff_iff]; simp [mP]
  have e2 : decide (a2 ∈ Q) = (p || q) := by rw [← hp, ← hq, Bool.eq_iff_iff]; simp [mQ]
  have e3 : decide (a2 ∈ R) = (p && !q) := by rw [← hp, ← hq, Bool.eq_iff_iff]; simp [mR]
  have HH := Lib.hid (And.intro (And.intro hp hq) (And.intro e1 (And.intro e2 e3)))
  have H2 : Hid (-9223372036854775808 ≤ a2 ∧ a2 ≤ 9223372036854775807) := wf_in w2
  have L1 : Hid ([a2].length ≤ 10000) := by show _ ≤ _; simp
  have U1 : Hid (Up [a2]) := by show Up _; simp
  have DX := Lib.hid dX
  have UX := Lib.hid uX
  have LX : Hid (X.length ≤ 10000) := Nat.le_trans lX (by decide)
  have DY := Lib.hid dY
  have UY := Lib.hid uY
  have LY : Hid (Y.length ≤ 10000) := Nat.le_trans lY (by decide)
  have DP := Lib.hid dP
  have UP := Lib.hid uP
  have LP : Hid (P.length ≤ 10000) := Nat.le_trans lP (by decide)
  have DQ := Lib.hid dQ
  have UQ := Lib.hid uQ
  have LQ : Hid (Q.length ≤ 10000) := Nat.le_trans lQ (by decide)
  have DR := Lib.hid dR
  have UR := Lib.hid uR
  have LR : Hid (R.length ≤ 10000) := Nat.le_trans lR (by decide)
  have Z0 : Hid (len0 ≤ 9223372036854775807 ∧ IAt w a0 len0 cap0 z0) := ⟨by omega, w0⟩
  have Z1 : Hid (len1 ≤ 9223372036854775807 ∧ IAt w a1 len1 cap1 z1) := ⟨by omega, w1⟩
  clear hp hq e1 e2 e3 dX uX lX dY uY lY dP uP lP mP dQ uQ lQ mQ dR uR lR mR w0 hl0 h0 w1 hl1 h1
  cases p <;> cases q
  all_goals
    go_enter Try.func4, Try.ntmps4
    go_wp2_with fail
    refine (rising_u DX.out Z0.out.1 Z0.out.2).mono ?_
    rintro e v1 ⟨⟨AX, cX, rfl, rX⟩, hk⟩
    have hb := hk
    have RX := Lib.hid rX
    clear rX hk
    go_wp2_with fail
    refine (rising_u DY.out Z1.out.1 (Z1.out.2.below hb)).mono ?_
    rintro e v2 ⟨⟨AY, cY, rfl, rY⟩, hk⟩
    have RX := Lib.hid (RX.out.below hk)
    have hb := below2 hb hk hb.size
    have RY := Lib.hid rY
    clear rY hk
    go_wp2_with fail
    refine (has_u HH.out.1.1 LX.out UX.out RX.out).mono ?_
    rintro e v3 ⟨rfl, hk⟩
    have RX := Lib.hid (RX.out.below hk)
    have RY := Lib.hid (RY.out.below hk)
    have hb := below2 hb hk hb.size
    clear hk
    go_wp2_with fail
    refine (has_u HH.out.1.2 LY.out UY.out RY.out).mono ?_
    rintro e v4 ⟨rfl, hk⟩
    have RX := Lib.hid (RX.out.below hk)
    have RY := Lib.hid (RY.out.below hk)
    have hb := below2 hb hk hb.size
    clear hk
    go_wp2_with fail
    have hk : Below v4.heap.size v4 (v4.alloc (.cells #[.int .i64 a2] 3)) := (Below.refl _ _).alloc (Nat.le_refl _) _
    have R1 := Lib.hid (row_one v4 a2 H2.out.1 H2.out.2)
    have RX := Lib.hid (RX.out.below hk)
    have RY := Lib.hid (RY.out.below hk)
    have hb := below2 hb hk hb.size
    clear hk
    go_wp2_with fail
    refine (refHas_v HH.out.1.1 LX.out RX.out).mono ?_
    rintro e v5 ⟨rfl, hk⟩
    have RX := Lib.hid (RX.out.below hk)
    have RY := Lib.hid (RY.out.below hk)
    have R1 := Lib.hid (R1.out.below hk)
    have hb := below2 hb hk hb.size
    clear hk
    go_wp2_with fail
    refine (refHas_v HH.out.1.2 LY.out RY.out).mono ?_
    rintro e v6 ⟨rfl, hk⟩
    have RX := Lib.hid (RX.out.below hk)
    have RY := Lib.hid (RY.out.below hk)
    have R1 := Lib.hid (R1.out.below hk)
    have hb := below2 hb hk hb.size
    clear hk
    go_wp2_with fail
    refine (and_u DP.out LX.out LY.out RX.out RY.out).mono ?_
    rintro e v7 ⟨⟨AP, cP, rfl, rP⟩, hk⟩
    have RX := Lib.hid (RX.out.below hk)
    have RY := Lib.hid (RY.out.below hk)
    have R1 := Lib.hid (R1.out.below hk)
    have hb := below2 hb hk hb.size
    have RP := Lib.hid rP
    clear rP hk
    go_wp2_with fail
    refine (has_u HH.out.2.1 LP.out UP.out RP.out).mono ?_
    rintro e v8 ⟨rfl, hk⟩
    have RX := Lib.hid (RX.out.below hk)
    have RY := Lib.hid (RY.out.below hk)
    have R1 := Lib.hid (R1.out.below hk)
    have RP := Lib.hid (RP.out.below hk)
    have hb := below2 hb hk hb.size
    clear hk
    go_wp2_with fail
    refine (or_u DQ.out LX.out LY.out RX.out RY.out).mono ?_
    rintro e v9 ⟨⟨AQ, cQ, rfl, rQ⟩, hk⟩
    have RX := Lib.hid (RX.out.below hk)
    have RY := Lib.hid (RY.out.below hk)
    have R1 := Lib.hid (R1.out.below hk)
    have RP := Lib.hid (RP.out.below hk)
    have hb := below2 hb hk hb.size
    have RQ := Lib.hid rQ
    clear rQ hk
    go_wp2_with fail
    refine (has_u HH.out.2.2.1 LQ.out UQ.out RQ.out).mono ?_
    rintro e v10 ⟨rfl, hk⟩
    have RX := Lib.hid (RX.out.below hk)
    have RY := Lib.hid (RY.out.below hk)
    have R1 := Lib.hid (R1.out.below hk)
    have RP := Lib.hid (RP.out.below hk)
    have RQ := Lib.hid (RQ.out.below hk)
    have hb := below2 hb hk hb.size
    clear hk
    go_wp2_with fail
    refine (not_u DR.out LX.out LY.out RX.out RY.out).mono ?_
    rintro e v11 ⟨⟨AR, cR, rfl, rR⟩, hk⟩
    have RX := Lib.hid (RX.out.below hk)
    have RY := Lib.hid (RY.out.below hk)
    have R1 := Lib.hid (R1.out.below hk)
    have RP := Lib.hid (RP.out.below hk)
    have RQ := Lib.hid (RQ.out.below hk)
    have hb := below2 hb hk hb.size
    have RR := Lib.hid rR
    clear rR hk
    go_wp2_with fail
    refine (has_u HH.out.2.2.2 LR.out UR.out RR.out).mono ?_
    rintro e v12 ⟨rfl, hk⟩
    have RX := Lib.hid (RX.out.below hk)
    have RY := Lib.hid (RY.out.below hk)
    have R1 := Lib.hid (R1.out.below hk)
    have RP := Lib.hid (RP.out.below hk)
    have RQ := Lib.hid (RQ.out.below hk)
    have RR := Lib.hid (RR.out.below hk)
    have hb := below2 hb hk hb.size
    clear hk
    go_wp2_with fail
    refine (has_u (b := true) (by simp) L1.out U1.out R1.out).mono ?_
    rintro e v13 ⟨rfl, hk⟩
    have RX := Lib.hid (RX.out.below hk)
    have RY := Lib.hid (RY.out.below hk)
    have R1 := Lib.hid (R1.out.below hk)
    have RP := Lib.hid (RP.out.below hk)
    have RQ := Lib.hid (RQ.out.below hk)
    have RR := Lib.hid (RR.out.below hk)
    have hb := below2 hb hk hb.size
    clear hk
    go_wp2_with fail
    go_ret
    exact ⟨rfl, hb⟩
end Go.Proofs.Ytalhjejbaembbaa
