/-
  Layer 6 (post): the law PostParts returns true.
-/
import Derived.Test.YtalhjejbaembbaaPostUse
namespace Go.Proofs.Ytalhjejbaembbaa
open Go.RowKit Go.Deep
set_option linter.unusedVariables false
set_option linter.unusedSimpArgs false
theorem row_one (w : World) (n : Int) (h1 : -9223372036854775808 ≤ n) (h2 : n ≤ 9223372036854775807) : Row (w.alloc (.cells #[.int .i64 n] 3)) (some ⟨w.heap.size, 0, none⟩) 1 [n] :=
  ⟨⟨rfl, .inr ⟨w.heap.size, 1, #[.int .i64 n], rfl, Nat.zero_le _, heap_alloc_new w _, Nat.le_refl _, by unfold maxLen; omega, rfl, rfl⟩⟩, by intro x hx; simp at hx; subst hx; exact ⟨h1, h2⟩⟩
theorem len_parts (p : Int → Bool) (l : List Int) : (l.filter p).length + (l.filter (fun x => !p x)).length = l.length := by
  induction l with
  | nil => rfl
  | cons x l ih => cases h : p x <;> simp [h] <;> omega
set_option maxRecDepth 100000 in
set_option maxHeartbeats 2000000 in
theorem law_PostParts (a0 : Option Addr) (len0 cap0 : Nat) (z0 : List Int) (a1 : Option Addr) (len1 cap1 : Nat) (z1 : List Int) (w : World) (hl0 : len0 ≤ maxLen) (w0 : IAt w a0 len0 cap0 z0) (hl1 : len1 ≤ maxLen) (w1 : IAt w a1 len1 cap1 z1) :
    Calls Try.prog 5 #[.slice a0 len0 cap0, .slice a1 len1 cap1] w fun e w' => e = .returned (.bool true) ∧ Below w.heap.size w w' := by
  unfold maxLen at hl0 hl1
  by_cases h0 : 4096 < (len0 : Int)
  · go_enter Try.func5, Try.ntmps5
    go_wp2
    go_ret
    exact ⟨rfl, Below.refl _ _⟩
  have t0 : decide (4096 < (len0 : Int)) = false := by simpa using h0
  by_cases h1 : 4096 < (len1 : Int)
  · clear h0
    go_enter Try.func5, Try.ntmps5
    go_wp2
    go_ret
    exact ⟨rfl, Below.refl _ _⟩
  have t1 : decide (4096 < (len1 : Int)) = false := by simpa using h1
  obtain ⟨X, dX⟩ : ∃ L, risL z0 = L := ⟨_, rfl⟩
  have uX : Up X := dX ▸ up_risL z0
  have lX : X.length ≤ 200 := dX ▸ len_risL z0
  obtain ⟨Y, dY⟩ : ∃ L, risL z1 = L := ⟨_, rfl⟩
  have uY : Up Y := dY ▸ up_risL z1
  have lY : Y.length ≤ 200 := dY ▸ len_risL z1
  obtain ⟨P, dP⟩ : ∃ L, mergeL fAnd X Y = L := ⟨_, rfl⟩
  have uP : Up P := dP ▸ up_merge _ X Y uX uY
  have lP : P.length ≤ 400 := by have := len_merge (fAnd) X Y; rw [dP] at this; omega
  have mP : ∀ x, x ∈ P ↔ x ∈ X ∧ x ∈ Y := fun x => by rw [← dP, mem_and uX uY]
  obtain ⟨R, dR⟩ : ∃ L, mergeL fNot X Y = L := ⟨_, rfl⟩
  have uR : Up R := dR ▸ up_merge _ X Y uX uY
  have lR : R.length ≤ 400 := by have := len_merge (fNot) X Y; rw [dR] at this; omega
  have mR : ∀ x, x ∈ R ↔ x ∈ X ∧ x ∉ Y := fun x => by rw [← dR, mem_not uX uY]
  obtain ⟨U1, dU1⟩ : ∃ L, mergeL fOr P R = L := ⟨_, rfl⟩
  have uU1 : Up U1 := dU1 ▸ up_merge _ P R uP uR
  have lU1 : U1.length ≤ 800 := by have := len_merge (fOr) P R; rw [dU1] at this; omega
  have mU1 : ∀ x, x ∈ U1 ↔ x ∈ P ∨ x ∈ R := fun x => by rw [← dU1, mem_or uP uR]
  obtain ⟨N, dN⟩ : ∃ L, mergeL fAnd P R = L := ⟨_, rfl⟩
  have uN : Up N := dN ▸ up_merge _ P R uP uR
  have lN : N.length ≤ 800 := by have := len_merge (fAnd) P R; rw [dN] at this; omega
  have mN : ∀ x, x ∈ N ↔ x ∈ P ∧ x ∈ R := fun x => by rw [← dN, mem_and uP uR]
  obtain ⟨Q, dQ⟩ : ∃ L, mergeL fOr X Y = L := ⟨_, rfl⟩
  have uQ : Up Q := dQ ▸ up_merge _ X Y uX uY
  have lQ : Q.length ≤ 400 := by have := len_merge (fOr) X Y; rw [dQ] at this; omega
  have mQ : ∀ x, x ∈ Q ↔ x ∈ X ∨ x ∈ Y := fun x => by rw [← dQ, mem_or uX uY]
  obtain ⟨Q2, dQ2⟩ : ∃ L, mergeL fOr Y X = L := ⟨_, rfl⟩
  have uQ2 : Up Q2 := dQ2 ▸ up_merge _ Y X uY uX
  have lQ2 : Q2.length ≤ 400 := by have := len_merge (fOr) Y X; rw [dQ2] at this; omega
  have mQ2 : ∀ x, x ∈ Q2 ↔ x ∈ Y ∨ x ∈ X := fun x => by rw [← dQ2, mem_or uY uX]
  obtain ⟨P2, dP2⟩ : ∃ L, mergeL fAnd Y X = L := ⟨_, rfl⟩
  have uP2 : Up P2 := dP2 ▸ up_merge _ Y X uY uX
  have lP2 : P2.length ≤ 400 := by have := len_merge (fAnd) Y X; rw [dP2] at this; omega
  have mP2 : ∀ x, x ∈ P2 ↔ x ∈ Y ∧ x ∈ X := fun x => by rw [← dP2, mem_and uY uX]
  have eU : U1 = X := up_ext uU1 uX fun x => by simp only [mP, mR, mU1, mN, mQ, mQ2, mP2]; grind
  have eQ : Q = Q2 := up_ext uQ uQ2 fun x => by simp only [mP, mR, mU1, mN, mQ, mQ2, mP2]; grind
  have eP : P = P2 := up_ext uP uP2 fun x => by simp only [mP, mR, mU1, mN, mQ, mQ2, mP2]; grind
  have eN : N.length = 0 := by rw [List.length_eq_zero_iff, List.eq_nil_iff_forall_not_mem]; intro x hx; have := (mN x).1 hx; simp only [mP, mR] at this; exact this.2.2 this.1.2
  have eL : P.length + R.length = X.length := by rw [← dP, ← dR, and_eq uX uY, not_eq uX uY]; exact len_parts _ X
  have HE := Lib.hid (And.intro eU (And.intro eQ eP))
  have tL : (P.length : Int) + (R.length : Int) = (X.length : Int) := by omega
  have tW : wrap64 (X.length : Int) = (X.length : Int) := by unfold wrap64; omega
  have tN : ((N.length : Int) == 0) = true := by rw [eN]; rfl
  have DX := Lib.hid dX
  have UX := Lib.hid uX
  have LX : Hid (X.length ≤ 10000) := Nat.le_trans lX (by decide)
  have DY := Lib.hid dY
  have UY := Lib.hid uY
  have LY : Hid (Y.length ≤ 10000) := Nat.le_trans lY (by decide)
  have DP := Lib.hid dP
  have UP := Lib.hid uP
  have LP : Hid (P.length ≤ 10000) := Nat.le_trans lP (by decide)
  have DR := Lib.hid dR
  have UR := Lib.hid uR
  have LR : Hid (R.length ≤ 10000) := Nat.le_trans lR (by decide)
  have DU1 := Lib.hid dU1
  have UU1 := Lib.hid uU1
  have LU1 : Hid (U1.length ≤ 10000) := Nat.le_trans lU1 (by decide)
  have DN := Lib.hid dN
  have UN := Lib.hid uN
  have LN : Hid (N.length ≤ 10000) := Nat.le_trans lN (by decide)
  have DQ := Lib.hid dQ
  have UQ := Lib.hid uQ
  have LQ : Hid (Q.length ≤ 10000) := Nat.le_trans lQ (by decide)
  have DQ2 := Lib.hid dQ2
  have UQ2 := Lib.hid uQ2
  have LQ2 : Hid (Q2.length ≤ 10000) := Nat.le_trans lQ2 (by decide)
  have DP2 := Lib.hid dP2
  have UP2 := Lib.hid uP2
  have LP2 : Hid (P2.length ≤ 10000) := Nat.le_trans lP2 (by decide)
  have Z0 : Hid (len0 ≤ 9223372036854775807 ∧ IAt w a0 len0 cap0 z0) := ⟨by omega, w0⟩
  have Z1 : Hid (len1 ≤ 9223372036854775807 ∧ IAt w a1 len1 cap1 z1) := ⟨by omega, w1⟩
  clear eU eQ eP eL eN dX uX lX dY uY lY dP uP lP mP dR uR lR mR dU1 uU1 lU1 mU1 dN uN lN mN dQ uQ lQ mQ dQ2 uQ2 lQ2 mQ2 dP2 uP2 lP2 mP2 w0 hl0 h0 w1 hl1 h1
  go_enter Try.func5, Try.ntmps5
  go_wp2_with fail
  refine (rising_u DX.out Z0.out.1 Z0.out.2).mono ?_
  rintro e v1 ⟨⟨AX, cX, rfl, rX⟩, hk⟩
  have hb := hk
  have RX := Lib.hid rX
  clear rX hk
  go_wp2_with fail
  refine (rising_u DY.out Z1.out.1 (Z1.out.2.below hb)).mono ?_
  rintro e v2 ⟨⟨AY, cY, rfl, rY⟩, hk⟩
  have RX := Lib.hid (RX.out.below hk)
  have hb := below2 hb hk hb.size
  have RY := Lib.hid rY
  clear rY hk
  go_wp2_with fail
  refine (and_u DP.out LX.out LY.out RX.out RY.out).mono ?_
  rintro e v3 ⟨⟨AP, cP, rfl, rP⟩, hk⟩
  have RX := Lib.hid (RX.out.below hk)
  have RY := Lib.hid (RY.out.below hk)
  have hb := below2 hb hk hb.size
  have RP := Lib.hid rP
  clear rP hk
  go_wp2_with fail
  refine (not_u DR.out LX.out LY.out RX.out RY.out).mono ?_
  rintro e v4 ⟨⟨AR, cR, rfl, rR⟩, hk⟩
  have RX := Lib.hid (RX.out.below hk)
  have RY := Lib.hid (RY.out.below hk)
  have RP := Lib.hid (RP.out.below hk)
  have hb := below2 hb hk hb.size
  have RR := Lib.hid rR
  clear rR hk
  go_wp2_with fail
  refine (or_u DU1.out LP.out LR.out RP.out RR.out).mono ?_
  rintro e v5 ⟨⟨AU1, cU1, rfl, rU1⟩, hk⟩
  have RX := Lib.hid (RX.out.below hk)
  have RY := Lib.hid (RY.out.below hk)
  have RP := Lib.hid (RP.out.below hk)
  have RR := Lib.hid (RR.out.below hk)
  have hb := below2 hb hk hb.size
  have RU1 := Lib.hid rU1
  clear rU1 hk
  go_wp2_with fail
  refine (same_u (decide_eq_true HE.out.1) LU1.out LX.out RU1.out RX.out).mono ?_
  rintro e v6 ⟨rfl, hk⟩
  have RX := Lib.hid (RX.out.below hk)
  have RY := Lib.hid (RY.out.below hk)
  have RP := Lib.hid (RP.out.below hk)
  have RR := Lib.hid (RR.out.below hk)
  have RU1 := Lib.hid (RU1.out.below hk)
  have hb := below2 hb hk hb.size
  clear hk
  go_wp2_with fail
  refine (and_u DN.out LP.out LR.out RP.out RR.out).mono ?_
  rintro e v7 ⟨⟨AN, cN, rfl, rN⟩, hk⟩
  have RX := Lib.hid (RX.out.below hk)
  have RY := Lib.hid (RY.out.below hk)
  have RP := Lib.hid (RP.out.below hk)
  have RR := Lib.hid (RR.out.below hk)
  have RU1 := Lib.hid (RU1.out.below hk)
  have hb := below2 hb hk hb.size
  have RN := Lib.hid rN
  clear rN hk
  go_wp2_with fail
  refine (or_u DQ.out LX.out LY.out RX.out RY.out).mono ?_
  rintro e v8 ⟨⟨AQ, cQ, rfl, rQ⟩, hk⟩
  have RX := Lib.hid (RX.out.below hk)
  have RY := Lib.hid (RY.out.below hk)
  have RP := Lib.hid (RP.out.below hk)
  have RR := Lib.hid (RR.out.below hk)
  have RU1 := Lib.hid (RU1.out.below hk)
  have RN := Lib.hid (RN.out.below hk)
  have hb := below2 hb hk hb.size
  have RQ := Lib.hid rQ
  clear rQ hk
  go_wp2_with fail
  refine (or_u DQ2.out LY.out LX.out RY.out RX.out).mono ?_
  rintro e v9 ⟨⟨AQ2, cQ2, rfl, rQ2⟩, hk⟩
  have RX := Lib.hid (RX.out.below hk)
  have RY := Lib.hid (RY.out.below hk)
  have RP := Lib.hid (RP.out.below hk)
  have RR := Lib.hid (RR.out.below hk)
  have RU1 := Lib.hid (RU1.out.below hk)
  have RN := Lib.hid (RN.out.below hk)
  have RQ := Lib.hid (RQ.out.below hk)
  have hb := below2 hb hk hb.size
  have RQ2 := Lib.hid rQ2
  clear rQ2 hk
  go_wp2_with fail
  refine (same_u (decide_eq_true HE.out.2.1) LQ.out LQ2.out RQ.out RQ2.out).mono ?_
  rintro e v10 ⟨rfl, hk⟩
  have RX := Lib.hid (RX.out.below hk)
  have RY := Lib.hid (RY.out.below hk)
  have RP := Lib.hid (RP.out.below hk)
  have RR := Lib.hid (RR.out.below hk)
  have RU1 := Lib.hid (RU1.out.below hk)
  have RN := Lib.hid (RN.out.below hk)
  have RQ := Lib.hid (RQ.out.below hk)
  have RQ2 := Lib.hid (RQ2.out.below hk)
  have hb := below2 hb hk hb.size
  clear hk
  go_wp2_with fail
  refine (and_u DP2.out LY.out LX.out RY.out RX.out).mono ?_
  rintro e v11 ⟨⟨AP2, cP2, rfl, rP2⟩, hk⟩
  have RX := Lib.hid (RX.out.below hk)
  have RY := Lib.hid (RY.out.below hk)
  have RP := Lib.hid (RP.out.below hk)
  have RR := Lib.hid (RR.out.below hk)
  have RU1 := Lib.hid (RU1.out.below hk)
  have RN := Lib.hid (RN.out.below hk)
  have RQ := Lib.hid (RQ.out.below hk)
  have RQ2 := Lib.hid (RQ2.out.below hk)
  have hb := below2 hb hk hb.size
  have RP2 := Lib.hid rP2
  clear rP2 hk
  go_wp2_with fail
  refine (same_u (decide_eq_true HE.out.2.2) LP.out LP2.out RP.out RP2.out).mono ?_
  rintro e v12 ⟨rfl, hk⟩
  have RX := Lib.hid (RX.out.below hk)
  have RY := Lib.hid (RY.out.below hk)
  have RP := Lib.hid (RP.out.below hk)
  have RR := Lib.hid (RR.out.below hk)
  have RU1 := Lib.hid (RU1.out.below hk)
  have RN := Lib.hid (RN.out.below hk)
  have RQ := Lib.hid (RQ.out.below hk)
  have RQ2 := Lib.hid (RQ2.out.below hk)
  have RP2 := Lib.hid (RP2.out.below hk)
  have hb := below2 hb hk hb.size
  clear hk
  go_wp2_with fail
  refine (or_u DQ.out LX.out LY.out RX.out RY.out).mono ?_
  rintro e v13 ⟨⟨AQ3, cQ3, rfl, rQ3⟩, hk⟩
  have RX := Lib.hid (RX.out.below hk)
  have RY := Lib.hid (RY.out.below hk)
  have RP := Lib.hid (RP.out.below hk)
  have RR := Lib.hid (RR.out.below hk)
  have RU1 := Lib.hid (RU1.out.below hk)
  have RN := Lib.hid (RN.out.below hk)
  have RQ := Lib.hid (RQ.out.below hk)
  have RQ2 := Lib.hid (RQ2.out.below hk)
  have RP2 := Lib.hid (RP2.out.below hk)
  have hb := below2 hb hk hb.size
  have RQ3 := Lib.hid rQ3
  clear rQ3 hk
  go_wp2_with fail
  refine (refOr_u DQ.out LX.out LY.out RX.out RY.out).mono ?_
  rintro e v14 ⟨⟨AQ4, cQ4, rfl, rQ4⟩, hk⟩
  have RX := Lib.hid (RX.out.below hk)
  have RY := Lib.hid (RY.out.below hk)
  have RP := Lib.hid (RP.out.below hk)
  have RR := Lib.hid (RR.out.below hk)
  have RU1 := Lib.hid (RU1.out.below hk)
  have RN := Lib.hid (RN.out.below hk)
  have RQ := Lib.hid (RQ.out.below hk)
  have RQ2 := Lib.hid (RQ2.out.below hk)
  have RP2 := Lib.hid (RP2.out.below hk)
  have RQ3 := Lib.hid (RQ3.out.below hk)
  have hb := below2 hb hk hb.size
  have RQ4 := Lib.hid rQ4
  clear rQ4 hk
  go_wp2_with fail
  refine (same_u (decide_eq_true rfl) LQ.out LQ.out RQ3.out RQ4.out).mono ?_
  rintro e v15 ⟨rfl, hk⟩
  have RX := Lib.hid (RX.out.below hk)
  have RY := Lib.hid (RY.out.below hk)
  have RP := Lib.hid (RP.out.below hk)
  have RR := Lib.hid (RR.out.below hk)
  have RU1 := Lib.hid (RU1.out.below hk)
  have RN := Lib.hid (RN.out.below hk)
  have RQ := Lib.hid (RQ.out.below hk)
  have RQ2 := Lib.hid (RQ2.out.below hk)
  have RP2 := Lib.hid (RP2.out.below hk)
  have RQ3 := Lib.hid (RQ3.out.below hk)
  have RQ4 := Lib.hid (RQ4.out.below hk)
  have hb := below2 hb hk hb.size
  clear hk
  go_wp2_with fail
  refine (rises_u (decide_eq_true UX.out) LX.out RX.out).mono ?_
  rintro e v16 ⟨rfl, hk⟩
  have RX := Lib.hid (RX.out.below hk)
  have RY := Lib.hid (RY.out.below hk)
  have RP := Lib.hid (RP.out.below hk)
  have RR := Lib.hid (RR.out.below hk)
  have RU1 := Lib.hid (RU1.out.below hk)
  have RN := Lib.hid (RN.out.below hk)
  have RQ := Lib.hid (RQ.out.below hk)
  have RQ2 := Lib.hid (RQ2.out.below hk)
  have RP2 := Lib.hid (RP2.out.below hk)
  have RQ3 := Lib.hid (RQ3.out.below hk)
  have RQ4 := Lib.hid (RQ4.out.below hk)
  have hb := below2 hb hk hb.size
  clear hk
  go_wp2_with fail
  go_ret
  exact ⟨rfl, hb⟩
end Go.Proofs.Ytalhjejbaembbaa
