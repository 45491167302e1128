/-
  Layer 2 (rice): what each call of the document's own answer returns, and what becomes of its memory.
-/
import Derived.Test.YteaelcimlmckjaaRiceRd
import Derived.Deep.RegionLaw
namespace Go.Proofs.Yteaelcimlmckjaa
open Go.RowKit Go.Deep
attribute [local go_sem] str_size str_append str_toList str_get str_extract
set_option linter.unusedVariables false
set_option linter.unusedSimpArgs false

theorem bool_info : (Try.prog.info? 4).map (fun i => (i.zero, i.size, i.bytes)) = some (some (.bool false), 1, 1) := by kernel_rfl
/-- A slice of the call's own that has the bits l. -/
def HasB (B : Nat) (v : Value) (l : List Bool) (w : World) : Prop := (∃ g cap, v = .slice (some ⟨g, 0, none⟩) l.length cap) ∧ w.ownsRow B 4 1 v l.length (l.map Value.bool)
/-- Behind an append. -/
theorem HasB.of {B : Nat} {v : Value} {l : List Bool} {n : Nat} {xs : List Value} {w : World} (h : w.ownsRow B 4 1 v n xs) (hn : n = l.length) (hx : xs = l.map Value.bool) (hne : ¬ v = .slice none 0 0) : HasB B v l w := by
  subst hn hx
  refine ⟨?_, h⟩
  rcases h.2 with ⟨e, _⟩ | ⟨g, cap, _, e, _⟩
  · exact absurd e hne
  · exact ⟨g, cap, e⟩
theorem map_rep (n : Nat) : (List.replicate n true).map Value.bool ++ [.bool true] = (List.replicate (n + 1) true).map Value.bool := by
  rw [List.replicate_succ', List.map_append]; rfl
theorem bool_cell {l : List Bool} : ∀ u ∈ l.map Value.bool, u.oneCell' = true := by
  intro u hu
  obtain ⟨b, _, rfl⟩ := List.mem_map.1 hu
  rfl
theorem HasB.empty (w : World) : HasB w.heap.size (.slice (some ⟨w.heap.size, 0, none⟩) 0 0) [] (w.alloc (.cells #[] 4)) :=
  ⟨⟨_, _, rfl⟩, World.ownsRow_made w #[] 0 (Nat.le_refl _) (by unfold maxLen; omega) rfl⟩
theorem lowB_one (n r : Nat) : lowB (n >>> r) 1 = [n.testBit r] := by simp [lowB, Nat.testBit_shiftRight]
theorem bit_bool (n r : Nat) : (((n : Int) / 2 ^ r % 2 == 1) : Bool) = n.testBit r := by
  rw [Nat.testBit_eq_decide_div_mod_eq, div_int]
  rcases Nat.mod_two_eq_zero_or_one (n / 2 ^ r) with h | h
  · have e : (((n / 2 ^ r : Nat) : Int) % 2) = 0 := by omega
    rw [e, h]; rfl
  · have e : (((n / 2 ^ r : Nat) : Int) % 2) = 1 := by omega
    rw [e, h]; rfl
theorem low_c (n k : Nat) (w : World) (hk : k ≤ 64) :
    Calls Try.prog 46 #[.int .u64 n, .int .i64 k] w fun e w' => (∃ v, e = .returned v ∧ HasB w.heap.size v (lowB n k) w') ∧ Below w.heap.size w w' := by
  obtain ⟨i0, hi0, hz0, hz1, hz2⟩ := info_parts bool_info
  go_enter Try.func46, Try.ntmps46
  go_wp2_with fail
  go_loopw [5, 6] (fun v i wr => ∃ r : Nat, r ≤ k ∧ i = .int .i64 ((r : Int) - 1) ∧ HasB w.heap.size v (addTo [] n k r) wr ∧ Below w.heap.size w wr) (fun _ i _ => (intOf i + 1).toNat)
  case atStart =>
    refine ⟨k, Nat.le_refl _, rfl, ?_, (Below.refl _ _).alloc (Nat.le_refl _) _⟩
    unfold addTo
    rw [Nat.sub_self]
    exact HasB.empty w
  case round =>
    obtain ⟨r, hr, rfl, hown, hb⟩ := hrel
    cases r with
    | zero =>
      go_wp2_with fail
      go_ret
      refine ⟨⟨_, rfl, ?_⟩, hb⟩
      simpa [addTo] using hown
    | succ t =>
      have e1 : ((t + 1 : Nat) : Int) - 1 = (t : Int) := by omega
      rw [e1]
      have hst := addTo_step [] n k (t + 1) 1 hr (by omega)
      rw [Nat.add_sub_cancel, lowB_one] at hst
      have hlen := addTo_length [] n k (t + 1)
      obtain ⟨b, hbe⟩ : ∃ b, n.testBit t = b := ⟨_, rfl⟩
      have hbit := bit_bool n t
      rw [hbe] at hbit hst
      have hq := div_int n t
      obtain ⟨q, hqe⟩ : ∃ q, n / 2 ^ t = q := ⟨_, rfl⟩
      rw [hqe] at hq
      rw [hq] at hbit
      generalize addTo [] n k (t + 1) = l at *
      obtain ⟨⟨g, cap, rfl⟩, hown⟩ := hown
      have HO := Lib.hid (hown.alloc (.cells #[.bool b] 4))
      have HS := Lib.hid hst
      have hl : l.length ≤ 64 := by simp at hlen; omega
      have hsz := hb.size
      clear hbe e1 hst hlen hown hqe
      go_wp2_with (at_builtin; refine wpList_append_own_at _ rfl (.tmp 14) (.tmp 21) 55 rfl w.heap.size 4 i0 (.bool false) 1 1 Try.underlying55 hi0 hz0 hz1 hz2 rfl (by decide) _ l.length _ rfl HO.out ⟨wr.heap.size, 0, none⟩ 1 1 [.bool b] rfl rfl ?c1 ?c2 ?c3 ?c4 ?c5 ?c6)
      case c1 => exact cell_one_new _ _ _
      case c2 => intro u hu; simp at hu; subst hu; rfl
      case c3 => unfold maxLen; omega
      case c4 => omega
      case c5 => simp; omega
      case c6 =>
        intro v' w1 hown1 hg1 hne _
        have hB : HasB w.heap.size v' (addTo [] n k t) w1 := by rw [HS.out]; exact HasB.of hown1 (by simp) (by simp) hne
        have hb1 : Below w.heap.size w w1 := (hb.alloc hsz _).grown hg1 (by simp; omega) (fun g hg => (HO.out.lt g hg).1)
        obtain ⟨g1, cap1, rfl⟩ := hB.1
        clear hown1 hg1 hne
        go_wp2
        exact ⟨⟨t, by omega, rfl, hB, hb1⟩, by simp [intOf] <;> omega⟩
set_option maxRecDepth 100000 in
theorem code_c (n k : Nat) (w : World) (hk : k ≤ 40) (hn : n < 18446744073709551616) :
    Calls Try.prog 30 #[.int .u64 n, .int .i64 k] w fun e w' => (∃ v, e = .returned v ∧ HasB w.heap.size v (code n k) w') ∧ Below w.heap.size w w' := by
  obtain ⟨i0, hi0, hz0, hz1, hz2⟩ := info_parts bool_info
  have hq := div_int n k
  have hcl := code_length n k
  obtain ⟨q, hqe⟩ : ∃ q, n / 2 ^ k = q := ⟨_, rfl⟩
  rw [hqe] at hq
  by_cases h24 : 24 ≤ q
  · have hc : code n k = List.replicate 24 true ++ lowB n 64 := by unfold code; rw [if_pos (by omega)]
    have HC := Lib.hid hc
    have h24b : decide (24 ≤ (q : Int)) = true := by simp; omega
    clear hc hqe hcl
    go_enter Try.func30, Try.ntmps30
    go_wp2_with fail
    go_loopw [5, 7] (fun v i wr => ∃ r : Nat, r ≤ 24 ∧ i = .int .i64 r ∧ HasB w.heap.size v (List.replicate r true) wr ∧ Below w.heap.size w wr) (fun _ i _ => (24 - intOf i).toNat)
    case atStart => exact ⟨0, by omega, rfl, HasB.empty w, (Below.refl _ _).alloc (Nat.le_refl _) _⟩
    case round =>
      obtain ⟨r, hr, rfl, ⟨⟨g, cap, rfl⟩, hown⟩, hb⟩ := hrel
      have hsz := hb.size
      rw [List.length_replicate] at hown ⊢
      by_cases h : r < 24
      · have HO := Lib.hid (hown.alloc (.cells #[.bool true] 4))
        clear hown
        go_wp2_with (at_builtin; refine wpList_append_own_at _ rfl (.tmp 20) (.tmp 21) 55 rfl w.heap.size 4 i0 (.bool false) 1 1 Try.underlying55 hi0 hz0 hz1 hz2 rfl (by decide) _ r _ rfl HO.out ⟨wr.heap.size, 0, none⟩ 1 1 [.bool true] rfl rfl ?c1 ?c2 ?c3 ?c4 ?c5 ?c6)
        case c1 => exact cell_one_new _ _ _
        case c2 => intro u hu; simp at hu; subst hu; rfl
        case c3 => unfold maxLen; omega
        case c4 => omega
        case c5 => simp; omega
        case c6 =>
          intro v' w1 hown1 hg1 hne _
          have hB : HasB w.heap.size v' (List.replicate (r + 1) true) w1 := HasB.of hown1 (by simp) (by rw [← map_rep]; simp) hne
          have hb1 : Below w.heap.size w w1 := (hb.alloc hsz _).grown hg1 (by simp; omega) (fun g hg => (HO.out.lt g hg).1)
          obtain ⟨g1, cap1, rfl⟩ := hB.1
          clear hown1 hg1 hne
          go_wp2
          exact ⟨⟨r + 1, by omega, rfl, hB, hb1⟩, by simp [intOf]; omega⟩
      · obtain rfl : r = 24 := by omega
        have HO := Lib.hid hown
        clear hown
        go_wp2_with fail
        refine (low_c n 64 _ (by omega)).mono ?_
        rintro e w1 ⟨⟨v1, rfl, ⟨g1, cap1, rfl⟩, hown1⟩, hb1⟩
        have HO1 := Lib.hid ((Keeps.below (F := []) hb1).row HO.out (by simp))
        have HV := Lib.hid hown1
        have hsz1 := hb1.size
        rw [lowB_length] at *
        clear hown1 HO
        go_wp2_with (at_builtin; refine wpList_append_own_at _ rfl (.tmp 23) (.tmp 25) 55 rfl w.heap.size 4 i0 (.bool false) 1 1 Try.underlying55 hi0 hz0 hz1 hz2 rfl (by decide) _ 24 _ rfl HO1.out ⟨g1, 0, none⟩ 64 cap1 ((lowB n 64).map Value.bool) rfl ?c1 ?c2 ?c3 ?c4 ?c5 ?c6 ?c7)
        case c1 => simp [lowB_length]
        case c2 => exact HV.out.cells (g := g1) rfl
        case c3 => exact bool_cell
        case c4 => unfold maxLen; omega
        case c5 => omega
        case c6 => omega
        case c7 =>
          intro v' w2 hown2 hg2 hne _
          have hB : HasB w.heap.size v' (code n k) w2 := by rw [HC.out]; exact HasB.of hown2 (by simp [lowB_length]) (by simp) hne
          have hb2 : Below w.heap.size w w2 := (hb.trans (hb1.mono hsz)).grown hg2 (by omega) (fun g hg => (HO1.out.lt g hg).1)
          obtain ⟨g2, cap2, rfl⟩ := hB.1
          clear hown2 hg2 hne
          go_wp2
          go_ret
          exact ⟨⟨_, rfl, hB⟩, hb2⟩
  · have hc : code n k = (List.replicate q true ++ [false]) ++ lowB n k := by unfold code; rw [if_neg (by omega), hqe]; simp
    have HC := Lib.hid hc
    have h24b : decide (24 ≤ (q : Int)) = false := by simp; omega
    clear hc hqe hcl
    go_enter Try.func30, Try.ntmps30
    go_wp2_with fail
    go_loopw [5, 8] (fun v i wr => ∃ r : Nat, r ≤ q ∧ i = .int .u64 r ∧ HasB w.heap.size v (List.replicate r true) wr ∧ Below w.heap.size w wr) (fun _ i _ => (q - intOf i).toNat)
    case atStart => exact ⟨0, by omega, rfl, HasB.empty w, (Below.refl _ _).alloc (Nat.le_refl _) _⟩
    case round =>
      obtain ⟨r, hr, rfl, ⟨⟨g, cap, rfl⟩, hown⟩, hb⟩ := hrel
      have hsz := hb.size
      rw [List.length_replicate] at hown ⊢
      by_cases h : r < q
      · have HO := Lib.hid (hown.alloc (.cells #[.bool true] 4))
        clear hown
        go_wp2_with (at_builtin; refine wpList_append_own_at _ rfl (.tmp 32) (.tmp 33) 55 rfl w.heap.size 4 i0 (.bool false) 1 1 Try.underlying55 hi0 hz0 hz1 hz2 rfl (by decide) _ r _ rfl HO.out ⟨wr.heap.size, 0, none⟩ 1 1 [.bool true] rfl rfl ?c1 ?c2 ?c3 ?c4 ?c5 ?c6)
        case c1 => exact cell_one_new _ _ _
        case c2 => intro u hu; simp at hu; subst hu; rfl
        case c3 => unfold maxLen; omega
        case c4 => omega
        case c5 => simp; omega
        case c6 =>
          intro v' w1 hown1 hg1 hne _
          have hB : HasB w.heap.size v' (List.replicate (r + 1) true) w1 := HasB.of hown1 (by simp) (by rw [← map_rep]; simp) hne
          have hb1 : Below w.heap.size w w1 := (hb.alloc hsz _).grown hg1 (by simp; omega) (fun g hg => (HO.out.lt g hg).1)
          obtain ⟨g1, cap1, rfl⟩ := hB.1
          clear hown1 hg1 hne
          go_wp2
          exact ⟨⟨r + 1, by omega, rfl, hB, hb1⟩, by simp [intOf]; omega⟩
      · obtain rfl : r = q := by omega
        have HO := Lib.hid (hown.alloc (.cells #[.bool false] 4))
        clear hown
        go_wp2_with (at_builtin; refine wpList_append_own_at _ rfl (.tmp 35) (.tmp 36) 55 rfl w.heap.size 4 i0 (.bool false) 1 1 Try.underlying55 hi0 hz0 hz1 hz2 rfl (by decide) _ r _ rfl HO.out ⟨wr.heap.size, 0, none⟩ 1 1 [.bool false] rfl rfl ?c1 ?c2 ?c3 ?c4 ?c5 ?c6)
        case c1 => exact cell_one_new _ _ _
        case c2 => intro u hu; simp at hu; subst hu; rfl
        case c3 => unfold maxLen; omega
        case c4 => omega
        case c5 => simp; omega
        case c6 =>
          intro v' w1 hown1 hg1 hne _
          have hB : HasB w.heap.size v' (List.replicate r true ++ [false]) w1 := HasB.of hown1 (by simp) (by simp) hne
          have hb1 : Below w.heap.size w w1 := (hb.alloc hsz _).grown hg1 (by simp; omega) (fun g hg => (HO.out.lt g hg).1)
          obtain ⟨⟨g1, cap1, rfl⟩, hB⟩ := hB
          have hl1 : (List.replicate r true ++ [false]).length = r + 1 := by simp
          rw [hl1] at hB ⊢
          have HB := Lib.hid hB
          have hsz1 := hb1.size
          clear hown1 hg1 hne HO hl1 hB
          go_wp2_with fail
          refine (low_c n k _ (by omega)).mono ?_
          rintro e w2 ⟨⟨v2, rfl, ⟨g2, cap2, rfl⟩, hown2⟩, hb2⟩
          have HO1 := Lib.hid ((Keeps.below (F := []) hb2).row HB.out (by simp))
          rw [lowB_length] at *
          have HV := Lib.hid hown2
          have hsz2 := hb2.size
          clear hown2
          go_wp2_with (at_builtin; refine wpList_append_own_at _ rfl (.tmp 38) (.tmp 41) 55 rfl w.heap.size 4 i0 (.bool false) 1 1 Try.underlying55 hi0 hz0 hz1 hz2 rfl (by decide) _ (r + 1) _ rfl HO1.out ⟨g2, 0, none⟩ k cap2 ((lowB n k).map Value.bool) rfl ?d1 ?d2 ?d3 ?d4 ?d5 ?d6 ?d7)
          case d1 => simp [lowB_length]
          case d2 => exact HV.out.cells (g := g2) rfl
          case d3 => exact bool_cell
          case d4 => unfold maxLen; omega
          case d5 => omega
          case d6 => omega
          case d7 =>
            intro v' w3 hown3 hg3 hne _
            have hB : HasB w.heap.size v' (code n k) w3 := by rw [HC.out]; exact HasB.of hown3 (by simp [lowB_length]; omega) (by simp) hne
            have hb3 : Below w.heap.size w w3 := (hb1.trans (hb2.mono hsz1)).grown hg3 (by omega) (fun g hg => (HO1.out.lt g hg).1)
            obtain ⟨g3, cap3, rfl⟩ := hB.1
            clear hown3 hg3 hne
            go_wp2
            go_ret
            exact ⟨⟨_, rfl, hB⟩, hb3⟩
end Go.Proofs.Yteaelcimlmckjaa
