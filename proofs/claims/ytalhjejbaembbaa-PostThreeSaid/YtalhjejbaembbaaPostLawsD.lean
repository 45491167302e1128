/-
  Layer 6 (post): the law PostThree returns true.
-/
import Derived.Test.YtalhjejbaembbaaPostUse
namespace Go.Proofs.Ytalhjejbaembbaa
open Go.RowKit Go.Deep
set_option linter.unusedVariables false
set_option linter.unusedSimpArgs false
theorem row_one (w : World) (n : Int) (h1 : -9223372036854775808 ≤ n) (h2 : n ≤ 9223372036854775807) : Row (w.alloc (.cells #[.int .i64 n] 3)) (some ⟨w.heap.size, 0, none⟩) 1 [n] :=
  ⟨⟨rfl, .inr ⟨w.heap.size, 1, #[.int .i64 n], rfl, Nat.zero_le _, heap_alloc_new w _, Nat.le_refl _, by unfold maxLen; omega, rfl, rfl⟩⟩, by intro x hx; simp at hx; subst hx; exact ⟨h1, h2⟩⟩
set_option maxRecDepth 100000 in
set_option maxHeartbeats 2000000 in
theorem law_PostThree (a0 : Option Addr) (len0 cap0 : Nat) (z0 : List Int) (a1 : Option Addr) (len1 cap1 : Nat) (z1 : List Int) (a2 : Option Addr) (len2 cap2 : Nat) (z2 : List Int) (w : World) (hl0 : len0 ≤ maxLen) (w0 : IAt w a0 len0 cap0 z0) (hl1 : len1 ≤ maxLen) (w1 : IAt w a1 len1 cap1 z1) (hl2 : len2 ≤ maxLen) (w2 : IAt w a2 len2 cap2 z2) :
    Calls Try.prog 7 #[.slice a0 len0 cap0, .slice a1 len1 cap1, .slice a2 len2 cap2] w fun e w' => e = .returned (.bool true) ∧ Below w.heap.size w w' := by
  unfold maxLen at hl0 hl1 hl2
  by_cases h0 : 4096 < (len0 : Int)
  · go_enter Try.func7, Try.ntmps7
    go_wp2
    go_ret
    exact ⟨rfl, Below.refl _ _⟩
  have t0 : decide (4096 < (len0 : Int)) = false := by simpa using h0
  by_cases h1 : 4096 < (len1 : Int)
  · clear h0
    go_enter Try.func7, Try.ntmps7
    go_wp2
    go_ret
    exact ⟨rfl, Below.refl _ _⟩
  have t1 : decide (4096 < (len1 : Int)) = false := by simpa using h1
  by_cases h2 : 4096 < (len2 : Int)
  · clear h0 h1
    go_enter Try.func7, Try.ntmps7
    go_wp2
    go_ret
    exact ⟨rfl, Below.refl _ _⟩
  have t2 : decide (4096 < (len2 : Int)) = false := by simpa using h2
  obtain ⟨X, dX⟩ : ∃ L, risL z0 = L := ⟨_, rfl⟩
  have uX : Up X := dX ▸ up_risL z0
  have lX : X.length ≤ 200 := dX ▸ len_risL z0
  obtain ⟨Y, dY⟩ : ∃ L, risL z1 = L := ⟨_, rfl⟩
  have uY : Up Y := dY ▸ up_risL z1
  have lY : Y.length ≤ 200 := dY ▸ len_risL z1
  obtain ⟨Z, dZ⟩ : ∃ L, risL z2 = L := ⟨_, rfl⟩
  have uZ : Up Z := dZ ▸ up_risL z2
  have lZ : Z.length ≤ 200 := dZ ▸ len_risL z2
  obtain ⟨O, dO⟩ : ∃ L, mergeL fOr Y Z = L := ⟨_, rfl⟩
  have uO : Up O := dO ▸ up_merge _ Y Z uY uZ
  have lO : O.length ≤ 400 := by have := len_merge (fOr) Y Z; rw [dO] at this; omega
  have mO : ∀ x, x ∈ O ↔ x ∈ Y ∨ x ∈ Z := fun x => by rw [← dO, mem_or uY uZ]
  obtain ⟨P1, dP1⟩ : ∃ L, mergeL fAnd X O = L := ⟨_, rfl⟩
  have uP1 : Up P1 := dP1 ▸ up_merge _ X O uX uO
  have lP1 : P1.length ≤ 600 := by have := len_merge (fAnd) X O; rw [dP1] at this; omega
  have mP1 : ∀ x, x ∈ P1 ↔ x ∈ X ∧ x ∈ O := fun x => by rw [← dP1, mem_and uX uO]
  obtain ⟨P2, dP2⟩ : ∃ L, mergeL fAnd X Y = L := ⟨_, rfl⟩
  have uP2 : Up P2 := dP2 ▸ up_merge _ X Y uX uY
  have lP2 : P2.length ≤ 400 := by have := len_merge (fAnd) X Y; rw [dP2] at this; omega
  have mP2 : ∀ x, x ∈ P2 ↔ x ∈ X ∧ x ∈ Y := fun x => by rw [← dP2, mem_and uX uY]
  obtain ⟨P3, dP3⟩ : ∃ L, mergeL fAnd X Z = L := ⟨_, rfl⟩
  have uP3 : Up P3 := dP3 ▸ up_merge _ X Z uX uZ
  have lP3 : P3.length ≤ 400 := by have := len_merge (fAnd) X Z; rw [dP3] at this; omega
  have mP3 : ∀ x, x ∈ P3 ↔ x ∈ X ∧ x ∈ Z := fun x => by rw [← dP3, mem_and uX uZ]
  obtain ⟨P4, dP4⟩ : ∃ L, mergeL fOr P2 P3 = L := ⟨_, rfl⟩
  have uP4 : Up P4 := dP4 ▸ up_merge _ P2 P3 uP2 uP3
  have lP4 : P4.length ≤ 800 := by have := len_merge (fOr) P2 P3; rw [dP4] at this; omega
  have mP4 : ∀ x, x ∈ P4 ↔ x ∈ P2 ∨ x ∈ P3 := fun x => by rw [← dP4, mem_or uP2 uP3]
  obtain ⟨N1, dN1⟩ : ∃ L, mergeL fNot X O = L := ⟨_, rfl⟩
  have uN1 : Up N1 := dN1 ▸ up_merge _ X O uX uO
  have lN1 : N1.length ≤ 600 := by have := len_merge (fNot) X O; rw [dN1] at this; omega
  have mN1 : ∀ x, x ∈ N1 ↔ x ∈ X ∧ x ∉ O := fun x => by rw [← dN1, mem_not uX uO]
  obtain ⟨N2, dN2⟩ : ∃ L, mergeL fNot X Y = L := ⟨_, rfl⟩
  have uN2 : Up N2 := dN2 ▸ up_merge _ X Y uX uY
  have lN2 : N2.length ≤ 400 := by have := len_merge (fNot) X Y; rw [dN2] at this; omega
  have mN2 : ∀ x, x ∈ N2 ↔ x ∈ X ∧ x ∉ Y := fun x => by rw [← dN2, mem_not uX uY]
  obtain ⟨N3, dN3⟩ : ∃ L, mergeL fNot N2 Z = L := ⟨_, rfl⟩
  have uN3 : Up N3 := dN3 ▸ up_merge _ N2 Z uN2 uZ
  have lN3 : N3.length ≤ 600 := by have := len_merge (fNot) N2 Z; rw [dN3] at this; omega
  have mN3 : ∀ x, x ∈ N3 ↔ x ∈ N2 ∧ x ∉ Z := fun x => by rw [← dN3, mem_not uN2 uZ]
  obtain ⟨I1, dI1⟩ : ∃ L, mergeL fAnd Y Z = L := ⟨_, rfl⟩
  have uI1 : Up I1 := dI1 ▸ up_merge _ Y Z uY uZ
  have lI1 : I1.length ≤ 400 := by have := len_merge (fAnd) Y Z; rw [dI1] at this; omega
  have mI1 : ∀ x, x ∈ I1 ↔ x ∈ Y ∧ x ∈ Z := fun x => by rw [← dI1, mem_and uY uZ]
  obtain ⟨I2, dI2⟩ : ∃ L, mergeL fOr X I1 = L := ⟨_, rfl⟩
  have uI2 : Up I2 := dI2 ▸ up_merge _ X I1 uX uI1
  have lI2 : I2.length ≤ 600 := by have := len_merge (fOr) X I1; rw [dI2] at this; omega
  have mI2 : ∀ x, x ∈ I2 ↔ x ∈ X ∨ x ∈ I1 := fun x => by rw [← dI2, mem_or uX uI1]
  obtain ⟨I3, dI3⟩ : ∃ L, mergeL fOr X Y = L := ⟨_, rfl⟩
  have uI3 : Up I3 := dI3 ▸ up_merge _ X Y uX uY
  have lI3 : I3.length ≤ 400 := by have := len_merge (fOr) X Y; rw [dI3] at this; omega
  have mI3 : ∀ x, x ∈ I3 ↔ x ∈ X ∨ x ∈ Y := fun x => by rw [← dI3, mem_or uX uY]
  obtain ⟨I4, dI4⟩ : ∃ L, mergeL fOr X Z = L := ⟨_, rfl⟩
  have uI4 : Up I4 := dI4 ▸ up_merge _ X Z uX uZ
  have lI4 : I4.length ≤ 400 := by have := len_merge (fOr) X Z; rw [dI4] at this; omega
  have mI4 : ∀ x, x ∈ I4 ↔ x ∈ X ∨ x ∈ Z := fun x => by rw [← dI4, mem_or uX uZ]
  obtain ⟨I5, dI5⟩ : ∃ L, mergeL fAnd I3 I4 = L := ⟨_, rfl⟩
  have uI5 : Up I5 := dI5 ▸ up_merge _ I3 I4 uI3 uI4
  have lI5 : I5.length ≤ 800 := by have := len_merge (fAnd) I3 I4; rw [dI5] at this; omega
  have mI5 : ∀ x, x ∈ I5 ↔ x ∈ I3 ∧ x ∈ I4 := fun x => by rw [← dI5, mem_and uI3 uI4]
  have e1 : P1 = P4 := up_ext uP1 uP4 fun x => by simp only [mO, mP1, mP2, mP3, mP4, mN1, mN2, mN3, mI1, mI2, mI3, mI4, mI5]; grind
  have e2 : N1 = N3 := up_ext uN1 uN3 fun x => by simp only [mO, mP1, mP2, mP3, mP4, mN1, mN2, mN3, mI1, mI2, mI3, mI4, mI5]; grind
  have e3 : I2 = I5 := up_ext uI2 uI5 fun x => by simp only [mO, mP1, mP2, mP3, mP4, mN1, mN2, mN3, mI1, mI2, mI3, mI4, mI5]; grind
  have HE := Lib.hid (And.intro e1 (And.intro e2 e3))
  have L1 : Hid ([(4 : Int)].length ≤ 10000) := by show _ ≤ _; simp
  have U1 : Hid (Up [4]) := by show Up _; simp
  have DX := Lib.hid dX
  have UX := Lib.hid uX
  have LX : Hid (X.length ≤ 10000) := Nat.le_trans lX (by decide)
  have DY := Lib.hid dY
  have UY := Lib.hid uY
  have LY : Hid (Y.length ≤ 10000) := Nat.le_trans lY (by decide)
  have DZ := Lib.hid dZ
  have UZ := Lib.hid uZ
  have LZ : Hid (Z.length ≤ 10000) := Nat.le_trans lZ (by decide)
  have DO := Lib.hid dO
  have UO := Lib.hid uO
  have LO : Hid (O.length ≤ 10000) := Nat.le_trans lO (by decide)
  have DP1 := Lib.hid dP1
  have UP1 := Lib.hid uP1
  have LP1 : Hid (P1.length ≤ 10000) := Nat.le_trans lP1 (by decide)
  have DP2 := Lib.hid dP2
  have UP2 := Lib.hid uP2
  have LP2 : Hid (P2.length ≤ 10000) := Nat.le_trans lP2 (by decide)
  have DP3 := Lib.hid dP3
  have UP3 := Lib.hid uP3
  have LP3 : Hid (P3.length ≤ 10000) := Nat.le_trans lP3 (by decide)
  have DP4 := Lib.hid dP4
  have UP4 := Lib.hid uP4
  have LP4 : Hid (P4.length ≤ 10000) := Nat.le_trans lP4 (by decide)
  have DN1 := Lib.hid dN1
  have UN1 := Lib.hid uN1
  have LN1 : Hid (N1.length ≤ 10000) := Nat.le_trans lN1 (by decide)
  have DN2 := Lib.hid dN2
  have UN2 := Lib.hid uN2
  have LN2 : Hid (N2.length ≤ 10000) := Nat.le_trans lN2 (by decide)
  have DN3 := Lib.hid dN3
  have UN3 := Lib.hid uN3
  have LN3 : Hid (N3.length ≤ 10000) := Nat.le_trans lN3 (by decide)
  have DI1 := Lib.hid dI1
  have UI1 := Lib.hid uI1
  have LI1 : Hid (I1.length ≤ 10000) := Nat.le_trans lI1 (by decide)
  have DI2 := Lib.hid dI2
  have UI2 := Lib.hid uI2
  have LI2 : Hid (I2.length ≤ 10000) := Nat.le_trans lI2 (by decide)
  have DI3 := Lib.hid dI3
  have UI3 := Lib.hid uI3
  have LI3 : Hid (I3.length ≤ 10000) := Nat.le_trans lI3 (by decide)
  have DI4 := Lib.hid dI4
  have UI4 := Lib.hid uI4
  have LI4 : Hid (I4.length ≤ 10000) := Nat.le_trans lI4 (by decide)
  have DI5 := Lib.hid dI5
  have UI5 := Lib.hid uI5
  have LI5 : Hid (I5.length ≤ 10000) := Nat.le_trans lI5 (by decide)
  have Z0 : Hid (len0 ≤ 9223372036854775807 ∧ IAt w a0 len0 cap0 z0) := ⟨by omega, w0⟩
  have Z1 : Hid (len1 ≤ 9223372036854775807 ∧ IAt w a1 len1 cap1 z1) := ⟨by omega, w1⟩
  have Z2 : Hid (len2 ≤ 9223372036854775807 ∧ IAt w a2 len2 cap2 z2) := ⟨by omega, w2⟩
  clear e1 e2 e3 dX uX lX dY uY lY dZ uZ lZ dO uO lO mO dP1 uP1 lP1 mP1 dP2 uP2 lP2 mP2 dP3 uP3 lP3 mP3 dP4 uP4 lP4 mP4 dN1 uN1 lN1 mN1 dN2 uN2 lN2 mN2 dN3 uN3 lN3 mN3 dI1 uI1 lI1 mI1 dI2 uI2 lI2 mI2 dI3 uI3 lI3 mI3 dI4 uI4 lI4 mI4 dI5 uI5 lI5 mI5 w0 hl0 h0 w1 hl1 h1 w2 hl2 h2
  go_enter Try.func7, Try.ntmps7
  go_wp2_with fail
  refine (rising_u DX.out Z0.out.1 Z0.out.2).mono ?_
  rintro e v1 ⟨⟨AX, cX, rfl, rX⟩, hk⟩
  have hb := hk
  have RX := Lib.hid rX
  clear rX hk
  go_wp2_with fail
  refine (rising_u DY.out Z1.out.1 (Z1.out.2.below hb)).mono ?_
  rintro e v2 ⟨⟨AY, cY, rfl, rY⟩, hk⟩
  have RX := Lib.hid (RX.out.below hk)
  have hb := below2 hb hk hb.size
  have RY := Lib.hid rY
  clear rY hk
  go_wp2_with fail
  refine (rising_u DZ.out Z2.out.1 (Z2.out.2.below hb)).mono ?_
  rintro e v3 ⟨⟨AZ, cZ, rfl, rZ⟩, hk⟩
  have RX := Lib.hid (RX.out.below hk)
  have RY := Lib.hid (RY.out.below hk)
  have hb := below2 hb hk hb.size
  have RZ := Lib.hid rZ
  clear rZ hk
  go_wp2_with fail
  have hk : Below v3.heap.size v3 (v3.alloc (.cells #[.int .i64 4] 3)) := (Below.refl _ _).alloc (Nat.le_refl _) _
  have R1 := Lib.hid (row_one v3 4 (by decide) (by decide))
  have RX := Lib.hid (RX.out.below hk)
  have RY := Lib.hid (RY.out.below hk)
  have RZ := Lib.hid (RZ.out.below hk)
  have hb := below2 hb hk hb.size
  clear hk
  go_wp2_with fail
  refine (or_u DO.out LY.out LZ.out RY.out RZ.out).mono ?_
  rintro e v4 ⟨⟨AO, cO, rfl, rO⟩, hk⟩
  have RX := Lib.hid (RX.out.below hk)
  have RY := Lib.hid (RY.out.below hk)
  have RZ := Lib.hid (RZ.out.below hk)
  have R1 := Lib.hid (R1.out.below hk)
  have hb := below2 hb hk hb.size
  have RO := Lib.hid rO
  clear rO hk
  go_wp2_with fail
  refine (and_u DP1.out LX.out LO.out RX.out RO.out).mono ?_
  rintro e v5 ⟨⟨AP1, cP1, rfl, rP1⟩, hk⟩
  have RX := Lib.hid (RX.out.below hk)
  have RY := Lib.hid (RY.out.below hk)
  have RZ := Lib.hid (RZ.out.below hk)
  have R1 := Lib.hid (R1.out.below hk)
  have RO := Lib.hid (RO.out.below hk)
  have hb := below2 hb hk hb.size
  have RP1 := Lib.hid rP1
  clear rP1 hk
  go_wp2_with fail
  refine (and_u DP2.out LX.out LY.out RX.out RY.out).mono ?_
  rintro e v6 ⟨⟨AP2, cP2, rfl, rP2⟩, hk⟩
  have RX := Lib.hid (RX.out.below hk)
  have RY := Lib.hid (RY.out.below hk)
  have RZ := Lib.hid (RZ.out.below hk)
  have R1 := Lib.hid (R1.out.below hk)
  have RO := Lib.hid (RO.out.below hk)
  have RP1 := Lib.hid (RP1.out.below hk)
  have hb := below2 hb hk hb.size
  have RP2 := Lib.hid rP2
  clear rP2 hk
  go_wp2_with fail
  refine (and_u DP3.out LX.out LZ.out RX.out RZ.out).mono ?_
  rintro e v7 ⟨⟨AP3, cP3, rfl, rP3⟩, hk⟩
  have RX := Lib.hid (RX.out.below hk)
  have RY := Lib.hid (RY.out.below hk)
  have RZ := Lib.hid (RZ.out.below hk)
  have R1 := Lib.hid (R1.out.below hk)
  have RO := Lib.hid (RO.out.below hk)
  have RP1 := Lib.hid (RP1.out.below hk)
  have RP2 := Lib.hid (RP2.out.below hk)
  have hb := below2 hb hk hb.size
  have RP3 := Lib.hid rP3
  clear rP3 hk
  go_wp2_with fail
  refine (or_u DP4.out LP2.out LP3.out RP2.out RP3.out).mono ?_
  rintro e v8 ⟨⟨AP4, cP4, rfl, rP4⟩, hk⟩
  have RX := Lib.hid (RX.out.below hk)
  have RY := Lib.hid (RY.out.below hk)
  have RZ := Lib.hid (RZ.out.below hk)
  have R1 := Lib.hid (R1.out.below hk)
  have RO := Lib.hid (RO.out.below hk)
  have RP1 := Lib.hid (RP1.out.below hk)
  have RP2 := Lib.hid (RP2.out.below hk)
  have RP3 := Lib.hid (RP3.out.below hk)
  have hb := below2 hb hk hb.size
  have RP4 := Lib.hid rP4
  clear rP4 hk
  go_wp2_with fail
  refine (same_u (decide_eq_true HE.out.1) LP1.out LP4.out RP1.out RP4.out).mono ?_
  rintro e v9 ⟨rfl, hk⟩
  have RX := Lib.hid (RX.out.below hk)
  have RY := Lib.hid (RY.out.below hk)
  have RZ := Lib.hid (RZ.out.below hk)
  have R1 := Lib.hid (R1.out.below hk)
  have RO := Lib.hid (RO.out.below hk)
  have RP1 := Lib.hid (RP1.out.below hk)
  have RP2 := Lib.hid (RP2.out.below hk)
  have RP3 := Lib.hid (RP3.out.below hk)
  have RP4 := Lib.hid (RP4.out.below hk)
  have hb := below2 hb hk hb.size
  clear hk
  go_wp2_with fail
  refine (has_u (b := true) (n := 4) (by simp) L1.out U1.out R1.out).mono ?_
  rintro e v10 ⟨rfl, hk⟩
  have RX := Lib.hid (RX.out.below hk)
  have RY := Lib.hid (RY.out.below hk)
  have RZ := Lib.hid (RZ.out.below hk)
  have R1 := Lib.hid (R1.out.below hk)
  have RO := Lib.hid (RO.out.below hk)
  have RP1 := Lib.hid (RP1.out.below hk)
  have RP2 := Lib.hid (RP2.out.below hk)
  have RP3 := Lib.hid (RP3.out.below hk)
  have RP4 := Lib.hid (RP4.out.below hk)
  have hb := below2 hb hk hb.size
  clear hk
  go_wp2_with fail
  refine (or_u DO.out LY.out LZ.out RY.out RZ.out).mono ?_
  rintro e v11 ⟨⟨AO2, cO2, rfl, rO2⟩, hk⟩
  have RX := Lib.hid (RX.out.below hk)
  have RY := Lib.hid (RY.out.below hk)
  have RZ := Lib.hid (RZ.out.below hk)
  have R1 := Lib.hid (R1.out.below hk)
  have RO := Lib.hid (RO.out.below hk)
  have RP1 := Lib.hid (RP1.out.below hk)
  have RP2 := Lib.hid (RP2.out.below hk)
  have RP3 := Lib.hid (RP3.out.below hk)
  have RP4 := Lib.hid (RP4.out.below hk)
  have hb := below2 hb hk hb.size
  have RO2 := Lib.hid rO2
  clear rO2 hk
  go_wp2_with fail
  refine (not_u DN1.out LX.out LO.out RX.out RO2.out).mono ?_
  rintro e v12 ⟨⟨AN1, cN1, rfl, rN1⟩, hk⟩
  have RX := Lib.hid (RX.out.below hk)
  have RY := Lib.hid (RY.out.below hk)
  have RZ := Lib.hid (RZ.out.below hk)
  have R1 := Lib.hid (R1.out.below hk)
  have RO := Lib.hid (RO.out.below hk)
  have RP1 := Lib.hid (RP1.out.below hk)
  have RP2 := Lib.hid (RP2.out.below hk)
  have RP3 := Lib.hid (RP3.out.below hk)
  have RP4 := Lib.hid (RP4.out.below hk)
  have RO2 := Lib.hid (RO2.out.below hk)
  have hb := below2 hb hk hb.size
  have RN1 := Lib.hid rN1
  clear rN1 hk
  go_wp2_with fail
  refine (not_u DN2.out LX.out LY.out RX.out RY.out).mono ?_
  rintro e v13 ⟨⟨AN2, cN2, rfl, rN2⟩, hk⟩
  have RX := Lib.hid (RX.out.below hk)
  have RY := Lib.hid (RY.out.below hk)
  have RZ := Lib.hid (RZ.out.below hk)
  have R1 := Lib.hid (R1.out.below hk)
  have RO := Lib.hid (RO.out.below hk)
  have RP1 := Lib.hid (RP1.out.below hk)
  have RP2 := Lib.hid (RP2.out.below hk)
  have RP3 := Lib.hid (RP3.out.below hk)
  have RP4 := Lib.hid (RP4.out.below hk)
  have RO2 := Lib.hid (RO2.out.below hk)
  have RN1 := Lib.hid (RN1.out.below hk)
  have hb := below2 hb hk hb.size
  have RN2 := Lib.hid rN2
  clear rN2 hk
  go_wp2_with fail
  refine (not_u DN3.out LN2.out LZ.out RN2.out RZ.out).mono ?_
  rintro e v14 ⟨⟨AN3, cN3, rfl, rN3⟩, hk⟩
  have RX := Lib.hid (RX.out.below hk)
  have RY := Lib.hid (RY.out.below hk)
  have RZ := Lib.hid (RZ.out.below hk)
  have R1 := Lib.hid (R1.out.below hk)
  have RO := Lib.hid (RO.out.below hk)
  have RP1 := Lib.hid (RP1.out.below hk)
  have RP2 := Lib.hid (RP2.out.below hk)
  have RP3 := Lib.hid (RP3.out.below hk)
  have RP4 := Lib.hid (RP4.out.below hk)
  have RO2 := Lib.hid (RO2.out.below hk)
  have RN1 := Lib.hid (RN1.out.below hk)
  have RN2 := Lib.hid (RN2.out.below hk)
  have hb := below2 hb hk hb.size
  have RN3 := Lib.hid rN3
  clear rN3 hk
  go_wp2_with fail
  refine (same_u (decide_eq_true HE.out.2.1) LN1.out LN3.out RN1.out RN3.out).mono ?_
  rintro e v15 ⟨rfl, hk⟩
  have RX := Lib.hid (RX.out.below hk)
  have RY := Lib.hid (RY.out.below hk)
  have RZ := Lib.hid (RZ.out.below hk)
  have R1 := Lib.hid (R1.out.below hk)
  have RO := Lib.hid (RO.out.below hk)
  have RP1 := Lib.hid (RP1.out.below hk)
  have RP2 := Lib.hid (RP2.out.below hk)
  have RP3 := Lib.hid (RP3.out.below hk)
  have RP4 := Lib.hid (RP4.out.below hk)
  have RO2 := Lib.hid (RO2.out.below hk)
  have RN1 := Lib.hid (RN1.out.below hk)
  have RN2 := Lib.hid (RN2.out.below hk)
  have RN3 := Lib.hid (RN3.out.below hk)
  have hb := below2 hb hk hb.size
  clear hk
  go_wp2_with fail
  refine (and_u DI1.out LY.out LZ.out RY.out RZ.out).mono ?_
  rintro e v16 ⟨⟨AI1, cI1, rfl, rI1⟩, hk⟩
  have RX := Lib.hid (RX.out.below hk)
  have RY := Lib.hid (RY.out.below hk)
  have RZ := Lib.hid (RZ.out.below hk)
  have R1 := Lib.hid (R1.out.below hk)
  have RO := Lib.hid (RO.out.below hk)
  have RP1 := Lib.hid (RP1.out.below hk)
  have RP2 := Lib.hid (RP2.out.below hk)
  have RP3 := Lib.hid (RP3.out.below hk)
  have RP4 := Lib.hid (RP4.out.below hk)
  have RO2 := Lib.hid (RO2.out.below hk)
  have RN1 := Lib.hid (RN1.out.below hk)
  have RN2 := Lib.hid (RN2.out.below hk)
  have RN3 := Lib.hid (RN3.out.below hk)
  have hb := below2 hb hk hb.size
  have RI1 := Lib.hid rI1
  clear rI1 hk
  go_wp2_with fail
  refine (or_u DI2.out LX.out LI1.out RX.out RI1.out).mono ?_
  rintro e v17 ⟨⟨AI2, cI2, rfl, rI2⟩, hk⟩
  have RX := Lib.hid (RX.out.below hk)
  have RY := Lib.hid (RY.out.below hk)
  have RZ := Lib.hid (RZ.out.below hk)
  have R1 := Lib.hid (R1.out.below hk)
  have RO := Lib.hid (RO.out.below hk)
  have RP1 := Lib.hid (RP1.out.below hk)
  have RP2 := Lib.hid (RP2.out.below hk)
  have RP3 := Lib.hid (RP3.out.below hk)
  have RP4 := Lib.hid (RP4.out.below hk)
  have RO2 := Lib.hid (RO2.out.below hk)
  have RN1 := Lib.hid (RN1.out.below hk)
  have RN2 := Lib.hid (RN2.out.below hk)
  have RN3 := Lib.hid (RN3.out.below hk)
  have RI1 := Lib.hid (RI1.out.below hk)
  have hb := below2 hb hk hb.size
  have RI2 := Lib.hid rI2
  clear rI2 hk
  go_wp2_with fail
  refine (or_u DI3.out LX.out LY.out RX.out RY.out).mono ?_
  rintro e v18 ⟨⟨AI3, cI3, rfl, rI3⟩, hk⟩
  have RX := Lib.hid (RX.out.below hk)
  have RY := Lib.hid (RY.out.below hk)
  have RZ := Lib.hid (RZ.out.below hk)
  have R1 := Lib.hid (R1.out.below hk)
  have RO := Lib.hid (RO.out.below hk)
  have RP1 := Lib.hid (RP1.out.below hk)
  have RP2 := Lib.hid (RP2.out.below hk)
  have RP3 := Lib.hid (RP3.out.below hk)
  have RP4 := Lib.hid (RP4.out.below hk)
  have RO2 := Lib.hid (RO2.out.below hk)
  have RN1 := Lib.hid (RN1.out.below hk)
  have RN2 := Lib.hid (RN2.out.below hk)
  have RN3 := Lib.hid (RN3.out.below hk)
  have RI1 := Lib.hid (RI1.out.below hk)
  have RI2 := Lib.hid (RI2.out.below hk)
  have hb := below2 hb hk hb.size
  have RI3 := Lib.hid rI3
  clear rI3 hk
  go_wp2_with fail
  refine (or_u DI4.out LX.out LZ.out RX.out RZ.out).mono ?_
  rintro e v19 ⟨⟨AI4, cI4, rfl, rI4⟩, hk⟩
  have RX := Lib.hid (RX.out.below hk)
  have RY := Lib.hid (RY.out.below hk)
  have RZ := Lib.hid (RZ.out.below hk)
  have R1 := Lib.hid (R1.out.below hk)
  have RO := Lib.hid (RO.out.below hk)
  have RP1 := Lib.hid (RP1.out.below hk)
  have RP2 := Lib.hid (RP2.out.below hk)
  have RP3 := Lib.hid (RP3.out.below hk)
  have RP4 := Lib.hid (RP4.out.below hk)
  have RO2 := Lib.hid (RO2.out.below hk)
  have RN1 := Lib.hid (RN1.out.below hk)
  have RN2 := Lib.hid (RN2.out.below hk)
  have RN3 := Lib.hid (RN3.out.below hk)
  have RI1 := Lib.hid (RI1.out.below hk)
  have RI2 := Lib.hid (RI2.out.below hk)
  have RI3 := Lib.hid (RI3.out.below hk)
  have hb := below2 hb hk hb.size
  have RI4 := Lib.hid rI4
  clear rI4 hk
  go_wp2_with fail
  refine (and_u DI5.out LI3.out LI4.out RI3.out RI4.out).mono ?_
  rintro e v20 ⟨⟨AI5, cI5, rfl, rI5⟩, hk⟩
  have RX := Lib.hid (RX.out.below hk)
  have RY := Lib.hid (RY.out.below hk)
  have RZ := Lib.hid (RZ.out.below hk)
  have R1 := Lib.hid (R1.out.below hk)
  have RO := Lib.hid (RO.out.below hk)
  have RP1 := Lib.hid (RP1.out.below hk)
  have RP2 := Lib.hid (RP2.out.below hk)
  have RP3 := Lib.hid (RP3.out.below hk)
  have RP4 := Lib.hid (RP4.out.below hk)
  have RO2 := Lib.hid (RO2.out.below hk)
  have RN1 := Lib.hid (RN1.out.below hk)
  have RN2 := Lib.hid (RN2.out.below hk)
  have RN3 := Lib.hid (RN3.out.below hk)
  have RI1 := Lib.hid (RI1.out.below hk)
  have RI2 := Lib.hid (RI2.out.below hk)
  have RI3 := Lib.hid (RI3.out.below hk)
  have RI4 := Lib.hid (RI4.out.below hk)
  have hb := below2 hb hk hb.size
  have RI5 := Lib.hid rI5
  clear rI5 hk
  go_wp2_with fail
  refine (same_u (decide_eq_true HE.out.2.2) LI2.out LI5.out RI2.out RI5.out).mono ?_
  rintro e v21 ⟨rfl, hk⟩
  have RX := Lib.hid (RX.out.below hk)
  have RY := Lib.hid (RY.out.below hk)
  have RZ := Lib.hid (RZ.out.below hk)
  have R1 := Lib.hid (R1.out.below hk)
  have RO := Lib.hid (RO.out.below hk)
  have RP1 := Lib.hid (RP1.out.below hk)
  have RP2 := Lib.hid (RP2.out.below hk)
  have RP3 := Lib.hid (RP3.out.below hk)
  have RP4 := Lib.hid (RP4.out.below hk)
  have RO2 := Lib.hid (RO2.out.below hk)
  have RN1 := Lib.hid (RN1.out.below hk)
  have RN2 := Lib.hid (RN2.out.below hk)
  have RN3 := Lib.hid (RN3.out.below hk)
  have RI1 := Lib.hid (RI1.out.below hk)
  have RI2 := Lib.hid (RI2.out.below hk)
  have RI3 := Lib.hid (RI3.out.below hk)
  have RI4 := Lib.hid (RI4.out.below hk)
  have RI5 := Lib.hid (RI5.out.below hk)
  have hb := below2 hb hk hb.size
  clear hk
  go_wp2_with fail
  go_ret
  exact ⟨rfl, hb⟩
end Go.Proofs.Ytalhjejbaembbaa
