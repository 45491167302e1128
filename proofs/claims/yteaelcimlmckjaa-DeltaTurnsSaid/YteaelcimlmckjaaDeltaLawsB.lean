/-
  Layer 3 (delta): values of all 64 bits come back.
-/
import Derived.Test.YteaelcimlmckjaaDeltaDecB
import Derived.Test.YteaelcimlmckjaaDeltaRef
namespace Go.Proofs.Yteaelcimlmckjaa
open Go.RowKit Go.Deep
attribute [local go_sem] str_size str_append str_toList str_get str_extract
set_option linter.unusedVariables false
set_option linter.unusedSimpArgs false

theorem rises_range (k : Nat) : ∀ (f : Nat → Smp) (p : Int), (0 < k → p < (f 0).1) → (∀ i, i + 1 < k → (f i).1 < (f (i + 1)).1) → (∀ i, i < k → (f i).1 < 1099511627776) → rises p ((List.range k).map f) := by
  induction k with
  | zero => intro f p _ _ _; exact True.intro
  | succ k ih =>
    intro f p h1 h2 h3
    rw [List.range_succ_eq_map, List.map_cons, List.map_map]
    exact ⟨h1 (by omega), h3 0 (by omega), ih (f ∘ Nat.succ) (f 0).1 (fun hk => h2 0 (by omega)) (fun i hi => h2 (i + 1) (by omega)) (fun i hi => h3 (i + 1) (by omega))⟩
def turnS (z : List Int) (k : Nat) : List Smp := (List.range k).map fun (i : Nat) => (3 * (i : Int), z.getD i 0)
theorem turnS_length (z : List Int) (k : Nat) : (turnS z k).length = k := by simp [turnS]
theorem turnS_snoc (z : List Int) (k : Nat) : smpC (turnS z (k + 1)) = smpC (turnS z k) ++ [.int .i64 (3 * (k : Int)), .int .i64 (z.getD k 0)] := by
  unfold turnS
  rw [List.range_succ, List.map_append, smpC_append]; rfl
theorem turnS_ok (z : List Int) (k : Nat) (hk : k ≤ 100) : dE (turnS z k) = 0 := by
  have hr : rises (-1) (turnS z k) := rises_range k _ (-1) (fun _ => by show (-1 : Int) < 3 * ((0 : Nat) : Int); omega) (fun i hi => by show 3 * (i : Int) < 3 * ((i + 1 : Nat) : Int); omega) (fun i hi => by show 3 * (i : Int) < _; omega)
  unfold dE
  rw [turnS_length, if_neg (by omega), if_pos hr]
set_option maxRecDepth 100000 in
set_option maxHeartbeats 1000000 in
theorem law_DeltaTurns (a0 : Option Addr) (len0 cap0 : Nat) (z0 : List Int) (w : World) (w0 : (a0 = none ∧ len0 = 0 ∧ cap0 = 0 ∧ z0 = []) ∨
    ∃ x, a0 = some x ∧ len0 ≤ cap0 ∧ cap0 ≤ maxLen ∧ z0.length = cap0 ∧ (∀ i, i < z0.length → w.cell? (x.add i) = some (.int .i64 (z0.getD i 0))) ∧ ∀ n ∈ z0, (Lit.int .i64 n).wf = true) :
    Calls Try.prog 6 #[.slice a0 len0 cap0] w fun e w' => e = .returned (.bool true) ∧ Below w.heap.size w w' := by
  obtain ⟨i0, hi0, hz0, hz1, hz2⟩ := info_parts smp_info
  have hml : len0 ≤ maxLen := by
    rcases w0 with ⟨_, h, _, _⟩ | ⟨_, _, h1, h2, _⟩
    · rw [h]; exact Nat.zero_le _
    · exact Nat.le_trans h1 h2
  unfold maxLen at hml
  have hcell : ∀ i, i < len0 → ∃ x, a0 = some x ∧ (x.add i).block < w.heap.size ∧ w.cell? (x.add i) = some (.int .i64 (z0.getD i 0)) ∧ -9223372036854775808 ≤ z0.getD i 0 ∧ z0.getD i 0 ≤ 9223372036854775807 := by
    intro i hi
    rcases w0 with ⟨_, h, _, _⟩ | ⟨x, rfl, h1, h2, h3, h4, h5⟩
    · omega
    · have hil : i < z0.length := by omega
      have hc := h4 i hil
      have hg : z0.getD i 0 = z0[i] := by simp [List.getD_eq_getElem?_getD, hil]
      have hb := bounds_i64 (h5 z0[i] (List.getElem_mem hil))
      exact ⟨x, rfl, World.block_lt_of_cell? w _ hc, hc, by rw [hg]; exact hb.1, by rw [hg]; exact hb.2⟩
  by_cases h100 : 100 < (len0 : Int)
  · go_enter Try.func6, Try.ntmps6
    go_wp2
    go_ret
    exact ⟨rfl, Below.refl _ _⟩
  · have hd : decide (100 < (len0 : Int)) = false := by simpa using h100
    have hl100 : len0 ≤ 100 := by omega
    have HC := Lib.hid hcell
    clear hcell w0 h100
    go_enter Try.func6, Try.ntmps6
    go_wp2_with fail
    go_loopw [3, 4] (fun lv c wr => ∃ k : Nat, k ≤ len0 ∧ c = .int .i64 k ∧ (∃ A cap, lv = .slice A k cap ∧ wr.ownsRow w.heap.size 34 2 (.slice A k cap) k (smpC (turnS z0 k))) ∧ Below w.heap.size w wr) (fun _ c _ => len0 - (intOf c).toNat)
    case atStart => exact ⟨0, Nat.zero_le _, rfl, ⟨_, _, rfl, (World.ownsRow_made w #[] 0 (Nat.le_refl _) (by unfold maxLen; omega) rfl)⟩, (Below.refl _ w).alloc (Nat.le_refl _) _⟩
    case round =>
      obtain ⟨k, hk, rfl, ⟨A, cap, rfl, hrow⟩, hb⟩ := hrel
      have hbs := hb.size
      by_cases hlt : k < len0
      · have e1 : IntKind.i64.wrap (3 * (k : Int)) = 3 * (k : Int) := IntWalk.i64_in _ (by omega)
        have hlm : k + 1 ≤ maxLen := by unfold maxLen; omega
        obtain ⟨x, rfl, hxb, hxc, -, -⟩ := HC.out k hlt
        have hxc := (hb.cell (p := x.add k) hxb).trans hxc
        have hsn := turnS_snoc z0 k
        obtain ⟨z, hz⟩ : ∃ z, z0.getD k 0 = z := ⟨_, rfl⟩
        rw [hz] at hxc hsn
        have HSN := Lib.hid hsn
        have HR := Lib.hid hrow
        clear hrow hsn hz
        go_wp2_with (at_builtin; refine wpList_append_own_at _ rfl (.tmp 21) (.tmp 29) 22 rfl w.heap.size 34 i0 (.agg #[.int .i64 0, .int .i64 0]) 2 16 Try.underlying22 hi0 hz0 hz1 hz2 rfl (by decide) (.slice A k cap) k _ rfl (HR.out.alloc _) ⟨wr.heap.size, 0, none⟩ 1 1 [.int .i64 (3 * (k : Int)), .int .i64 z] rfl rfl (cell_two_new _ _ _ _) ?s0 hlm ?s2 ?s3 ?c1)
        case s0 => intro u hu; simp at hu; rcases hu with rfl | rfl <;> rfl
        case s2 => omega
        case s3 => simp; omega
        case c1 =>
          intro v' w4 hown hg hnn hat
          obtain ⟨A2, cap2, rfl⟩ := row_slice hown
          have hb4 : Below w.heap.size w w4 := (hb.alloc hbs _).grown hg (by simp; omega) (fun k hk => (HR.out.lt k hk).1)
          have HO := Lib.hid hown
          clear hown hg hnn hat
          go_wp2_with fail
          go_roundw
          case rel => exact ⟨k + 1, by omega, by go_num, ⟨A2, cap2, rfl, by rw [HSN.out]; exact HO.out⟩, hb4⟩
          case measure => simp [intOf]; omega
      · obtain rfl : k = len0 := by omega
        have hl2 := turnS_length z0 k
        have hrg : ∀ s, s ∈ turnS z0 k → -9223372036854775808 ≤ s.1 ∧ s.1 ≤ 9223372036854775807 ∧ -9223372036854775808 ≤ s.2 ∧ s.2 ≤ 9223372036854775807 := by
          intro s hs
          obtain ⟨i, hi, rfl⟩ := List.mem_map.1 hs
          have hi2 : i < k := by simpa using hi
          obtain ⟨_, _, _, _, h1, h2⟩ := HC.out i hi2
          exact ⟨by show _ ≤ 3 * (i : Int); omega, by show 3 * (i : Int) ≤ _; omega, h1, h2⟩
        have hA : SAt wr A k (turnS z0 k) := sAt_row hrow hl2.symm hrg
        have hE := turnS_ok z0 k hl100
        have hV : vals64 (turnS z0 k) := fun s hs => ⟨(hrg s hs).2.2.1, (hrg s hs).2.2.2⟩
        have hD := decD_back _ hE hV
        have hM := (dEnc_most _ hE hV).1
        rw [hl2] at hM
        have hlS : (turnS z0 k).length ≤ 100000 := by omega
        obtain ⟨L, hL⟩ : ∃ L, turnS z0 k = L := ⟨_, rfl⟩
        rw [hL] at hA hE hD hM hl2 hlS
        have C1 := encode_c A k cap _ wr (by unfold maxLen; omega) hA
        obtain ⟨s, hs⟩ : ∃ s, dEnc L = s := ⟨_, rfl⟩
        rw [hs] at hD hM
        rw [hE, hs] at C1
        have C2 := fun W (h : Below wr.heap.size wr W) => refDEnc_c A k cap _ W (by unfold maxLen; omega) (hA.below h)
        simp only [hE, hs] at C2
        have C3 := fun W => decode_c s W (by omega)
        rw [hD] at C3
        have C1 := Lib.hid C1
        have C2 := Lib.hid C2
        have C3 := Lib.hid C3
        have HA := Lib.hid (And.intro hA (And.intro hlS hl2))
        clear hE hV hs hA hrow hl2 hrg hD hM hlS hL
        go_wp2_with fail
        refine C1.out.mono ?_
        rintro e w1 ⟨rfl, hb1⟩
        go_wp2_with fail
        refine (C3.out _).mono ?_
        rintro e w2 ⟨⟨A2, cap2, rfl, hS2, hl5⟩, hb2⟩
        have hb12 := below2 hb1 hb2 hb1.size
        rw [HA.out.2.2] at hS2 ⊢
        have HS2 := Lib.hid hS2
        clear hS2 hl5
        go_wp2_with fail
        refine (C2.out _ hb12).mono ?_
        rintro e w3 ⟨rfl, hb3⟩
        have hb13 := below2 hb12 hb3 hb12.size
        have hS3 := HS2.out.below hb3
        have C4 := same_c A2 A k k cap2 cap L L w3 HA.out.2.1 HA.out.2.1 hS3 (HA.out.1.below hb13)
        rw [decide_eq_true rfl] at C4
        have C4 := Lib.hid C4
        clear C1 C2 C3 hS3
        go_wp2_with fail
        refine C4.out.mono ?_
        rintro e w4 ⟨rfl, hb4⟩
        go_wp2_with fail
        go_ret
        exact ⟨rfl, below2 hb (below2 hb13 hb4 hb13.size) hb.size⟩
end Go.Proofs.Yteaelcimlmckjaa
