/-
  Layer 3 (delta): the statements on samples of one distance, and on values of all 64 bits.
-/
import Derived.Test.YteaelcimlmckjaaDeltaDecB
import Derived.Test.YteaelcimlmckjaaDeltaRef
namespace Go.Proofs.Yteaelcimlmckjaa
open Go.RowKit Go.Deep
attribute [local go_sem] str_size str_append str_toList str_get str_extract
set_option linter.unusedVariables false
set_option linter.unusedSimpArgs false

theorem evenS_row (f d v : Int) (k : Nat) : smpC (evenS f d v (k + 1)) = smpC (evenS f d v k) ++ [.int .i64 (f + (k : Int) * d), .int .i64 v] := by
  rw [evenS_snoc, smpC_append]; rfl
set_option maxRecDepth 100000 in
set_option maxHeartbeats 1000000 in
theorem law_DeltaEven (a0 : Int) (a1 : Int) (a2 : Int) (a3 : Int) (w : World) (w0 : (Lit.int .u16 a0).wf = true) (w1 : (Lit.int .u16 a1).wf = true) (w2 : (Lit.int .i64 a2).wf = true) (w3 : (Lit.int .u8 a3).wf = true) :
    Calls Try.prog 5 #[.int .u16 a0, .int .u16 a1, .int .i64 a2, .int .u8 a3] w fun e w' => e = .returned (.bool true) ∧ Below w.heap.size w w' := by
  obtain ⟨i0, hi0, hz0, hz1, hz2⟩ := info_parts smp_info
  have h0 := bounds_u16 w0
  have h1 := bounds_u16 w1
  have h3 := bounds_u8 w3
  obtain ⟨v1, v2⟩ := bounds_i64 w2
  clear w0 w1 w2 w3
  obtain ⟨n, rfl⟩ : ∃ n : Nat, a3 = (n : Int) := ⟨a3.toNat, by omega⟩
  have hn : n ≤ 255 := by omega
  have c0 : IntKind.i64.wrap a0 = a0 := IntWalk.i64_in _ (by omega)
  have c1 : IntKind.i64.wrap a1 = a1 := IntWalk.i64_in _ (by omega)
  have cn : IntKind.i64.wrap (n : Int) = (n : Int) := IntWalk.i64_in _ (by omega)
  have cd : IntKind.i64.wrap (1 + a1) = 1 + a1 := IntWalk.i64_in _ (by omega)
  obtain ⟨d, hd⟩ : ∃ d, 1 + a1 = d := ⟨_, rfl⟩
  rw [hd] at cd
  have hd1 : 1 ≤ d ∧ d ≤ 65536 := by omega
  have hev := dEnc_even a0 d a2 n (by omega) (by omega) hd1.1 hd1.2 hn v1 v2
  have HEV := Lib.hid hev
  clear hev
  go_enter Try.func5, Try.ntmps5
  go_wp2_with fail
  go_loopw [10, 11] (fun lv c wr => ∃ k : Nat, k ≤ n ∧ c = .int .i64 k ∧ (∃ A cap, lv = .slice A k cap ∧ wr.ownsRow w.heap.size 34 2 (.slice A k cap) k (smpC (evenS a0 d a2 k))) ∧ Below w.heap.size w wr) (fun _ c _ => n - (intOf c).toNat)
  case atStart => exact ⟨0, Nat.zero_le _, rfl, ⟨_, _, rfl, (World.ownsRow_made w #[] 0 (Nat.le_refl _) (by unfold maxLen; omega) rfl)⟩, (Below.refl _ w).alloc (Nat.le_refl _) _⟩
  case round =>
    obtain ⟨k, hk, rfl, ⟨A, cap, rfl, hrow⟩, hb⟩ := hrel
    have hbs := hb.size
    by_cases hlt : k < n
    · have hkd : 0 ≤ (k : Int) * d ∧ (k : Int) * d ≤ 255 * 65536 := by
        have a : (k : Int) * d ≤ 255 * d := Int.mul_le_mul_of_nonneg_right (by omega) (by omega)
        have b := Int.mul_nonneg (show (0 : Int) ≤ k by omega) (show (0 : Int) ≤ d by omega)
        omega
      have e1 : IntKind.i64.wrap ((k : Int) * d) = (k : Int) * d := IntWalk.i64_in _ (by omega)
      have e2 : IntKind.i64.wrap (a0 + (k : Int) * d) = a0 + (k : Int) * d := IntWalk.i64_in _ (by omega)
      have hlm : k + 1 ≤ maxLen := by unfold maxLen; omega
      have HR := Lib.hid hrow
      clear hrow hd
      go_wp2_with (at_builtin; refine wpList_append_own_at _ rfl (.tmp 26) (.tmp 35) 22 rfl w.heap.size 34 i0 (.agg #[.int .i64 0, .int .i64 0]) 2 16 Try.underlying22 hi0 hz0 hz1 hz2 rfl (by decide) (.slice A k cap) k _ rfl (HR.out.alloc _) ⟨wr.heap.size, 0, none⟩ 1 1 [.int .i64 (a0 + (k : Int) * d), .int .i64 a2] rfl rfl (cell_two_new _ _ _ _) ?s0 hlm ?s2 ?s3 ?c1)
      case s0 => intro u hu; simp at hu; rcases hu with rfl | rfl <;> rfl
      case s2 => omega
      case s3 => simp; omega
      case c1 =>
        intro v' w4 hown hg hnn hat
        obtain ⟨A2, cap2, rfl⟩ := row_slice hown
        have hb4 : Below w.heap.size w w4 := (hb.alloc hbs _).grown hg (by simp; omega) (fun k hk => (HR.out.lt k hk).1)
        have HO := Lib.hid hown
        clear hown hg hnn hat
        go_wp2_with fail
        go_roundw
        case rel => exact ⟨k + 1, by omega, by go_num, ⟨A2, cap2, rfl, by rw [evenS_row]; exact HO.out⟩, hb4⟩
        case measure => simp [intOf]; omega
    · obtain rfl : k = n := by omega
      obtain ⟨hE, hV, hp, hl⟩ := HEV.out
      have hl2 := evenS_length a0 d a2 k
      have hA : SAt wr A k (evenS a0 d a2 k) := sAt_row hrow hl2.symm (fun s hs => by
        obtain ⟨i, hi, rfl⟩ := List.mem_map.1 hs
        have hi2 : i < k := by simpa using hi
        have a : (i : Int) * d ≤ 255 * d := Int.mul_le_mul_of_nonneg_right (by omega) (by omega)
        have b := Int.mul_nonneg (show (0 : Int) ≤ i by omega) (show (0 : Int) ≤ d by omega)
        exact ⟨by show _ ≤ a0 + (i : Int) * d; omega, by show a0 + (i : Int) * d ≤ _; omega, v1, v2⟩)
      have C1 := encode_c A k cap _ wr (by unfold maxLen; omega) hA
      obtain ⟨s, hs⟩ : ∃ s, dEnc (evenS a0 d a2 k) = s := ⟨_, rfl⟩
      rw [hE, hs] at C1
      have C2 := fun W (h : Below wr.heap.size wr W) => refDEnc_c A k cap _ W (by unfold maxLen; omega) (hA.below h)
      simp only [hE, hs] at C2
      rw [hs] at hp hl
      have C1 := Lib.hid C1
      have C2 := Lib.hid C2
      clear hE hV hs hA hrow hl2 hd
      go_wp2_with fail
      refine C1.out.mono ?_
      rintro e w1 ⟨rfl, hb1⟩
      go_wp2_with fail
      refine (C2.out _ hb1).mono ?_
      rintro e w2 ⟨rfl, hb2⟩
      have hB := below2 hb (below2 hb1 hb2 hb1.size) hb.size
      clear C1 C2 HEV
      by_cases h2 : k < 2
      · have hd2 : decide ((k : Int) < 2) = true := by simp; omega
        have hd3 : decide ((0 : Int) < (s.length : Int)) = true := by simp; omega
        go_wp2_with fail
        go_ret
        exact ⟨rfl, hB⟩
      · have hd2 : decide ((k : Int) < 2) = false := by simp; omega
        go_wp2_with fail
        go_ret
        exact ⟨ret_bool (decide_eq_true (by omega)), hB⟩
end Go.Proofs.Yteaelcimlmckjaa
