/-
  Layer 6 (post): the law PostTells returns true.
-/
import Derived.Test.YtalhjejbaembbaaPostUse
namespace Go.Proofs.Ytalhjejbaembbaa
open Go.RowKit Go.Deep
set_option linter.unusedVariables false
set_option linter.unusedSimpArgs false
theorem row_one (w : World) (n : Int) (h1 : -9223372036854775808 ≤ n) (h2 : n ≤ 9223372036854775807) : Row (w.alloc (.cells #[.int .i64 n] 3)) (some ⟨w.heap.size, 0, none⟩) 1 [n] :=
  ⟨⟨rfl, .inr ⟨w.heap.size, 1, #[.int .i64 n], rfl, Nat.zero_le _, heap_alloc_new w _, Nat.le_refl _, by unfold maxLen; omega, rfl, rfl⟩⟩, by intro x hx; simp at hx; subst hx; exact ⟨h1, h2⟩⟩
set_option maxRecDepth 100000 in
set_option maxHeartbeats 2000000 in
theorem law_PostTells (a0 : Option Addr) (len0 cap0 : Nat) (z0 : List Int) (a1 : Option Addr) (len1 cap1 : Nat) (z1 : List Int) (w : World) (hl0 : len0 ≤ maxLen) (w0 : IAt w a0 len0 cap0 z0) (hl1 : len1 ≤ maxLen) (w1 : IAt w a1 len1 cap1 z1) :
    Calls Try.prog 3 #[.slice a0 len0 cap0, .slice a1 len1 cap1] w fun e w' => e = .returned (.bool true) ∧ Below w.heap.size w w' := by
  unfold maxLen at hl0 hl1
  by_cases h0 : 4096 < (len0 : Int)
  · go_enter Try.func3, Try.ntmps3
    go_wp2
    go_ret
    exact ⟨rfl, Below.refl _ _⟩
  have t0 : decide (4096 < (len0 : Int)) = false := by simpa using h0
  by_cases h1 : 4096 < (len1 : Int)
  · clear h0
    go_enter Try.func3, Try.ntmps3
    go_wp2
    go_ret
    exact ⟨rfl, Below.refl _ _⟩
  have t1 : decide (4096 < (len1 : Int)) = false := by simpa using h1
  obtain ⟨X, dX⟩ : ∃ L, risL z0 = L := ⟨_, rfl⟩
  have uX : Up X := dX ▸ up_risL z0
  have lX : X.length ≤ 200 := dX ▸ len_risL z0
  obtain ⟨Y, dY⟩ : ∃ L, risL z1 = L := ⟨_, rfl⟩
  have uY : Up Y := dY ▸ up_risL z1
  have lY : Y.length ≤ 200 := dY ▸ len_risL z1
  obtain ⟨P, dP⟩ : ∃ L, mergeL fAnd X Y = L := ⟨_, rfl⟩
  have uP : Up P := dP ▸ up_merge _ X Y uX uY
  have lP : P.length ≤ 400 := by have := len_merge (fAnd) X Y; rw [dP] at this; omega
  have mP : ∀ x, x ∈ P ↔ x ∈ X ∧ x ∈ Y := fun x => by rw [← dP, mem_and uX uY]
  obtain ⟨Q, dQ⟩ : ∃ L, mergeL fOr X Y = L := ⟨_, rfl⟩
  have uQ : Up Q := dQ ▸ up_merge _ X Y uX uY
  have lQ : Q.length ≤ 400 := by have := len_merge (fOr) X Y; rw [dQ] at this; omega
  have mQ : ∀ x, x ∈ Q ↔ x ∈ X ∨ x ∈ Y := fun x => by rw [← dQ, mem_or uX uY]
  obtain ⟨R, dR⟩ : ∃ L, mergeL fNot X Y = L := ⟨_, rfl⟩
  have uR : Up R := dR ▸ up_merge _ X Y uX uY
  have lR : R.length ≤ 400 := by have := len_merge (fNot) X Y; rw [dR] at this; omega
  have mR : ∀ x, x ∈ R ↔ x ∈ X ∧ x ∉ Y := fun x => by rw [← dR, mem_not uX uY]
  have eP : andL X Y = P := by rw [← dP]; exact (and_eq uX uY).symm
  have eR : notL X Y = R := by rw [← dR]; exact (not_eq uX uY).symm
  have EP := Lib.hid eP
  have ER := Lib.hid eR
  obtain ⟨b, hb0⟩ : ∃ b, decide (Up z0) = b := ⟨_, rfl⟩
  have HB := Lib.hid hb0
  have sA := Lib.hid (fun W (h : Below w.heap.size w W) => (rises_c a0 len0 cap0 z0 W (by omega) (w0.below h)))
  have sB := Lib.hid (fun W (h : Below w.heap.size w W) => (refRises_c a0 len0 cap0 z0 W (by omega) (w0.below h)))
  rw [hb0] at sA sB
  have DX := Lib.hid dX
  have UX := Lib.hid uX
  have LX : Hid (X.length ≤ 10000) := Nat.le_trans lX (by decide)
  have DY := Lib.hid dY
  have UY := Lib.hid uY
  have LY : Hid (Y.length ≤ 10000) := Nat.le_trans lY (by decide)
  have DP := Lib.hid dP
  have UP := Lib.hid uP
  have LP : Hid (P.length ≤ 10000) := Nat.le_trans lP (by decide)
  have DQ := Lib.hid dQ
  have UQ := Lib.hid uQ
  have LQ : Hid (Q.length ≤ 10000) := Nat.le_trans lQ (by decide)
  have DR := Lib.hid dR
  have UR := Lib.hid uR
  have LR : Hid (R.length ≤ 10000) := Nat.le_trans lR (by decide)
  have Z0 : Hid (len0 ≤ 9223372036854775807 ∧ IAt w a0 len0 cap0 z0) := ⟨by omega, w0⟩
  have Z1 : Hid (len1 ≤ 9223372036854775807 ∧ IAt w a1 len1 cap1 z1) := ⟨by omega, w1⟩
  clear eP eR hb0 dX uX lX dY uY lY dP uP lP mP dQ uQ lQ mQ dR uR lR mR w0 hl0 h0 w1 hl1 h1
  go_enter Try.func3, Try.ntmps3
  go_wp2_with fail
  refine (rising_u DX.out Z0.out.1 Z0.out.2).mono ?_
  rintro e v1 ⟨⟨AX, cX, rfl, rX⟩, hk⟩
  have hb := hk
  have RX := Lib.hid rX
  clear rX hk
  go_wp2_with fail
  refine (rising_u DY.out Z1.out.1 (Z1.out.2.below hb)).mono ?_
  rintro e v2 ⟨⟨AY, cY, rfl, rY⟩, hk⟩
  have RX := Lib.hid (RX.out.below hk)
  have hb := below2 hb hk hb.size
  have RY := Lib.hid rY
  clear rY hk
  go_wp2_with fail
  refine (and_u DP.out LX.out LY.out RX.out RY.out).mono ?_
  rintro e v3 ⟨⟨AP, cP, rfl, rP⟩, hk⟩
  have RX := Lib.hid (RX.out.below hk)
  have RY := Lib.hid (RY.out.below hk)
  have hb := below2 hb hk hb.size
  have RP := Lib.hid rP
  clear rP hk
  go_wp2_with fail
  refine (or_u DQ.out LX.out LY.out RX.out RY.out).mono ?_
  rintro e v4 ⟨⟨AQ, cQ, rfl, rQ⟩, hk⟩
  have RX := Lib.hid (RX.out.below hk)
  have RY := Lib.hid (RY.out.below hk)
  have RP := Lib.hid (RP.out.below hk)
  have hb := below2 hb hk hb.size
  have RQ := Lib.hid rQ
  clear rQ hk
  go_wp2_with fail
  refine (not_u DR.out LX.out LY.out RX.out RY.out).mono ?_
  rintro e v5 ⟨⟨AR, cR, rfl, rR⟩, hk⟩
  have RX := Lib.hid (RX.out.below hk)
  have RY := Lib.hid (RY.out.below hk)
  have RP := Lib.hid (RP.out.below hk)
  have RQ := Lib.hid (RQ.out.below hk)
  have hb := below2 hb hk hb.size
  have RR := Lib.hid rR
  clear rR hk
  go_wp2_with fail
  refine (sA.out _ hb).mono ?_
  rintro e v6 ⟨rfl, hk⟩
  have RX := Lib.hid (RX.out.below hk)
  have RY := Lib.hid (RY.out.below hk)
  have RP := Lib.hid (RP.out.below hk)
  have RQ := Lib.hid (RQ.out.below hk)
  have RR := Lib.hid (RR.out.below hk)
  have hb := below2 hb hk hb.size
  clear hk
  go_wp2_with fail
  refine (sB.out _ hb).mono ?_
  rintro e v7 ⟨rfl, hk⟩
  have RX := Lib.hid (RX.out.below hk)
  have RY := Lib.hid (RY.out.below hk)
  have RP := Lib.hid (RP.out.below hk)
  have RQ := Lib.hid (RQ.out.below hk)
  have RR := Lib.hid (RR.out.below hk)
  have hb := below2 hb hk hb.size
  clear hk
  go_wp2_with fail
  refine (rises_u (decide_eq_true UP.out) LP.out RP.out).mono ?_
  rintro e v8 ⟨rfl, hk⟩
  have RX := Lib.hid (RX.out.below hk)
  have RY := Lib.hid (RY.out.below hk)
  have RP := Lib.hid (RP.out.below hk)
  have RQ := Lib.hid (RQ.out.below hk)
  have RR := Lib.hid (RR.out.below hk)
  have hb := below2 hb hk hb.size
  clear hk
  go_wp2_with fail
  refine (rises_u (decide_eq_true UQ.out) LQ.out RQ.out).mono ?_
  rintro e v9 ⟨rfl, hk⟩
  have RX := Lib.hid (RX.out.below hk)
  have RY := Lib.hid (RY.out.below hk)
  have RP := Lib.hid (RP.out.below hk)
  have RQ := Lib.hid (RQ.out.below hk)
  have RR := Lib.hid (RR.out.below hk)
  have hb := below2 hb hk hb.size
  clear hk
  go_wp2_with fail
  refine (rises_u (decide_eq_true UR.out) LR.out RR.out).mono ?_
  rintro e v10 ⟨rfl, hk⟩
  have RX := Lib.hid (RX.out.below hk)
  have RY := Lib.hid (RY.out.below hk)
  have RP := Lib.hid (RP.out.below hk)
  have RQ := Lib.hid (RQ.out.below hk)
  have RR := Lib.hid (RR.out.below hk)
  have hb := below2 hb hk hb.size
  clear hk
  go_wp2_with fail
  refine (refAnd_u EP.out LX.out LY.out RX.out RY.out).mono ?_
  rintro e v11 ⟨⟨AP1, cP1, rfl, rP1⟩, hk⟩
  have RX := Lib.hid (RX.out.below hk)
  have RY := Lib.hid (RY.out.below hk)
  have RP := Lib.hid (RP.out.below hk)
  have RQ := Lib.hid (RQ.out.below hk)
  have RR := Lib.hid (RR.out.below hk)
  have hb := below2 hb hk hb.size
  have RP1 := Lib.hid rP1
  clear rP1 hk
  go_wp2_with fail
  refine (same_u (decide_eq_true rfl) LP.out LP.out RP.out RP1.out).mono ?_
  rintro e v12 ⟨rfl, hk⟩
  have RX := Lib.hid (RX.out.below hk)
  have RY := Lib.hid (RY.out.below hk)
  have RP := Lib.hid (RP.out.below hk)
  have RQ := Lib.hid (RQ.out.below hk)
  have RR := Lib.hid (RR.out.below hk)
  have RP1 := Lib.hid (RP1.out.below hk)
  have hb := below2 hb hk hb.size
  clear hk
  go_wp2_with fail
  refine (refOr_u DQ.out LX.out LY.out RX.out RY.out).mono ?_
  rintro e v13 ⟨⟨AQ1, cQ1, rfl, rQ1⟩, hk⟩
  have RX := Lib.hid (RX.out.below hk)
  have RY := Lib.hid (RY.out.below hk)
  have RP := Lib.hid (RP.out.below hk)
  have RQ := Lib.hid (RQ.out.below hk)
  have RR := Lib.hid (RR.out.below hk)
  have RP1 := Lib.hid (RP1.out.below hk)
  have hb := below2 hb hk hb.size
  have RQ1 := Lib.hid rQ1
  clear rQ1 hk
  go_wp2_with fail
  refine (same_u (decide_eq_true rfl) LQ.out LQ.out RQ.out RQ1.out).mono ?_
  rintro e v14 ⟨rfl, hk⟩
  have RX := Lib.hid (RX.out.below hk)
  have RY := Lib.hid (RY.out.below hk)
  have RP := Lib.hid (RP.out.below hk)
  have RQ := Lib.hid (RQ.out.below hk)
  have RR := Lib.hid (RR.out.below hk)
  have RP1 := Lib.hid (RP1.out.below hk)
  have RQ1 := Lib.hid (RQ1.out.below hk)
  have hb := below2 hb hk hb.size
  clear hk
  go_wp2_with fail
  refine (refNot_u ER.out LX.out LY.out RX.out RY.out).mono ?_
  rintro e v15 ⟨⟨AR1, cR1, rfl, rR1⟩, hk⟩
  have RX := Lib.hid (RX.out.below hk)
  have RY := Lib.hid (RY.out.below hk)
  have RP := Lib.hid (RP.out.below hk)
  have RQ := Lib.hid (RQ.out.below hk)
  have RR := Lib.hid (RR.out.below hk)
  have RP1 := Lib.hid (RP1.out.below hk)
  have RQ1 := Lib.hid (RQ1.out.below hk)
  have hb := below2 hb hk hb.size
  have RR1 := Lib.hid rR1
  clear rR1 hk
  go_wp2_with fail
  refine (same_u (decide_eq_true rfl) LR.out LR.out RR.out RR1.out).mono ?_
  rintro e v16 ⟨rfl, hk⟩
  have RX := Lib.hid (RX.out.below hk)
  have RY := Lib.hid (RY.out.below hk)
  have RP := Lib.hid (RP.out.below hk)
  have RQ := Lib.hid (RQ.out.below hk)
  have RR := Lib.hid (RR.out.below hk)
  have RP1 := Lib.hid (RP1.out.below hk)
  have RQ1 := Lib.hid (RQ1.out.below hk)
  have RR1 := Lib.hid (RR1.out.below hk)
  have hb := below2 hb hk hb.size
  clear hk
  go_wp2_with fail
  go_ret
  exact ⟨rfl, hb⟩
end Go.Proofs.Ytalhjejbaembbaa
