/-
  Layer 2 (rice): each law's Go text returns true, for every input (the second part).
-/
import Derived.Test.YtaapdblddpnhdaaRiceLaws
import Derived.Deep.RegionHeld3
namespace Go.Proofs.Ytaapdblddpnhdaa
open Go.RowKit Go.Deep
attribute [local go_sem] str_size str_append str_toList str_get str_extract
set_option linter.unusedVariables false
set_option linter.unusedSimpArgs false

/-- What one writes stays apart from what was there. -/
theorem apart_of {F F' G : List Nat} {w : World} (h : ∀ k, k ∈ F' → k ∈ F ∨ w.heap.size ≤ k) (hd : ∀ g, g ∈ G → g ∉ F) (hG : ∀ g, g ∈ G → g < w.heap.size) : ∀ g, g ∈ G → g ∉ F' := by
  intro g hg hf
  rcases h g hf with h1 | h1
  · exact hd g hg h1
  · have := hG g hg; omega
theorem apart_symm {F G : List Nat} (h : ∀ g, g ∈ G → g ∉ F) : ∀ f, f ∈ F → f ∉ G := fun f hf hg => h f hg hf
theorem rice_ok (B p : Nat) (l : List Bool) (F : List Nat) (n k : Nat) (w : World) (hn : n < 18446744073709551616) (hk : k ≤ 40) (hl : l.length ≤ 4294967000) (hW : IsW B p l F w) :
    Calls Try.prog 14 #[.pointer (some ⟨p, 0, none⟩), .int .u64 n, .int .i64 k] w fun e w' => e = .returned (.int .i64 0) ∧ Wrote B p (l ++ code n k) F w w' := by
  have h := rice_c B p l F n k w hn hl hW
  rwa [riceE_ok hk, riceL_ok _ _ hk] at h
theorem put_ok (B p : Nat) (l : List Bool) (F : List Nat) (n k : Nat) (w : World) (hn : n < 18446744073709551616) (hk : k ≤ 64) (h0 : n / 2 ^ k = 0) (hl : l.length ≤ 4294967296) (hW : IsW B p l F w) :
    Calls Try.prog 12 #[.pointer (some ⟨p, 0, none⟩), .int .u64 n, .int .i64 k] w fun e w' => e = .returned (.int .i64 0) ∧ Wrote B p (l ++ lowB n k) F w w' := by
  have h := put_c B p l F n k w hn hl hW
  rwa [putE_ok hk h0, putL_ok _ hk h0] at h
theorem lowB_parts (n m low : Nat) (h : low ≤ m) : lowB n m = lowB (n / 2 ^ low) (m - low) ++ lowB (n % 2 ^ low) low := by
  rw [lowB_split n m (m - low) (by omega), show m - (m - low) = low by omega, Nat.shiftRight_eq_div_pow]
  congr 1
  exact lowB_congr _ _ _ (fun i hi => by rw [Nat.testBit_mod_two_pow]; simp [hi])
set_option maxHeartbeats 2000000 in
set_option maxRecDepth 100000 in
theorem law_RiceParts (a0 : Int) (a1 : Int) (a2 : Int) (a3 : Int) (a4 : Int) (w : World) (w0 : (Lit.int .u64 a0).wf = true) (w1 : (Lit.int .u8 a1).wf = true) (w2 : (Lit.int .u8 a2).wf = true) (w3 : (Lit.int .u64 a3).wf = true) (w4 : (Lit.int .u8 a4).wf = true) :
    Calls Try.prog 8 #[.int .u64 a0, .int .u8 a1, .int .u8 a2, .int .u64 a3, .int .u8 a4] w fun e w' => e = .returned (.bool true) ∧ Below w.heap.size w w' := by
  obtain ⟨h1, h2⟩ := bounds_u64 w0
  obtain ⟨h3, h4⟩ := bounds_u8 w1
  obtain ⟨h5, h6⟩ := bounds_u8 w2
  obtain ⟨h7, h8⟩ := bounds_u64 w3
  obtain ⟨h9, h10⟩ := bounds_u8 w4
  obtain ⟨n0, rfl⟩ : ∃ k : Nat, a0 = k := ⟨a0.toNat, by omega⟩
  obtain ⟨ato, rfl⟩ : ∃ k : Nat, a1 = k := ⟨a1.toNat, by omega⟩
  obtain ⟨many, rfl⟩ : ∃ k : Nat, a2 = k := ⟨a2.toNat, by omega⟩
  obtain ⟨ah, rfl⟩ : ∃ k : Nat, a3 = k := ⟨a3.toNat, by omega⟩
  obtain ⟨kk, rfl⟩ : ∃ k : Nat, a4 = k := ⟨a4.toNat, by omega⟩
  obtain ⟨k, hk⟩ : ∃ k, kk % 41 = k := ⟨_, rfl⟩
  obtain ⟨m, hm⟩ : ∃ m, many % 65 = m := ⟨_, rfl⟩
  obtain ⟨low, hlow⟩ : ∃ low, ato % (m + 1) = low := ⟨_, rfl⟩
  obtain ⟨d, hd⟩ : ∃ d, d = m - low := ⟨_, rfl⟩
  have hlm : low ≤ m := by have := Nat.mod_lt ato (show 0 < m + 1 by omega); omega
  have eq1 : (kk : Int) % 41 = (k : Int) := by omega
  have htm : (IntKind.i64.wrap (kk : Int)).tmod 41 = (k : Int) := by
    rw [IntWalk.i64_in _ (by omega), Int.tmod_eq_emod_of_nonneg (by omega)]; exact eq1
  have TM := Lib.hid htm
  clear htm
  have eq2 : (many : Int) % 65 = (m : Int) := by omega
  have eq3 : (ato : Int) % ((m : Int) + 1) = (low : Int) := by rw [← hlow]; simp
  have eq4 : (((m : Int) + 1) == 0) = false := by simp; omega
  have eq5 : (m : Int) - (low : Int) = (d : Int) := by omega
  have hk40 : k ≤ 40 := by omega
  have hm64 : m ≤ 64 := by omega
  -- the number that is put
  obtain ⟨n, hn⟩ : ∃ n, n = n0 % 2 ^ m := ⟨_, rfl⟩
  have hnm : n / 2 ^ m = 0 := by rw [hn]; exact Nat.div_eq_of_lt (Nat.mod_lt _ (Nat.two_pow_pos m))
  have hnl : n < 18446744073709551616 := by rw [hn]; exact Nat.lt_of_le_of_lt (Nat.mod_le _ _) (by omega)
  have hn64 : m = 64 → n = n0 := fun h => by rw [hn, h]; exact Nat.mod_eq_of_lt (by omega)
  have hpowm : m < 64 → 2 ^ m ≤ 9223372036854775808 := fun h => Nat.pow_le_pow_right (n := 2) (by omega) (show m ≤ 63 by omega)
  have hpowl : low < 64 → 2 ^ low ≤ 9223372036854775808 := fun h => Nat.pow_le_pow_right (n := 2) (by omega) (show low ≤ 63 by omega)
  obtain ⟨hi, hhi⟩ : ∃ hi, hi = n / 2 ^ low := ⟨_, rfl⟩
  obtain ⟨lo, hlo⟩ : ∃ lo, lo = n % 2 ^ low := ⟨_, rfl⟩
  have hparts : lowB n m = lowB hi d ++ lowB lo low := by rw [hhi, hlo, hd]; exact lowB_parts n m low hlm
  have hhil : hi < 18446744073709551616 := by rw [hhi]; exact Nat.lt_of_le_of_lt (Nat.div_le_self _ _) hnl
  have hlol : lo < 18446744073709551616 := by rw [hlo]; exact Nat.lt_of_le_of_lt (Nat.mod_le _ _) hnl
  have hhid : hi / 2 ^ d = 0 := by
    rw [hhi, Nat.div_div_eq_div_mul, ← Nat.pow_add, hd, show low + (m - low) = m by omega]; exact hnm
  have hlod : lo / 2 ^ low = 0 := by rw [hlo]; exact Nat.div_eq_of_lt (Nat.mod_lt _ (Nat.two_pow_pos low))
  have eq6 : (n : Int) / 2 ^ low = (hi : Int) := by rw [hhi, div_int]
  have hcl := code_le ah k hk40
  obtain ⟨C, hC⟩ : ∃ C, C = code ah k := ⟨_, rfl⟩
  rw [← hC] at hcl
  have HP := Lib.hid hparts
  have HC := Lib.hid hC
  have hd64 : d ≤ 64 := by omega
  have hahl : ah < 18446744073709551616 := by omega
  have HZ := Lib.hid (And.intro hnm (And.intro hhid hlod))
  by_cases hmlt : m < 64
  case' pos =>
    have hp := hpowm hmlt
    have hpl := hpowl (by omega)
    have hpp := Nat.two_pow_pos m
    have hppl := Nat.two_pow_pos low
    obtain ⟨t, ht⟩ : ∃ t, t = 2 ^ m := ⟨_, rfl⟩
    obtain ⟨tl, htl⟩ : ∃ tl, tl = 2 ^ low := ⟨_, rfl⟩
    have eq7 : IntKind.u64.wrap (2 ^ m) = (t : Int) := by
      have e : ((2 : Int) ^ m) = ((2 ^ m : Nat) : Int) := by simp
      rw [e, IntKind.wrap_u64, ht]; omega
    have eq8 : IntKind.u64.wrap (2 ^ low) = (tl : Int) := by
      have e : ((2 : Int) ^ low) = ((2 ^ low : Nat) : Int) := by simp
      rw [e, IntKind.wrap_u64, htl]; omega
    obtain ⟨t1, ht1⟩ : ∃ t1, t1 = t - 1 := ⟨_, rfl⟩
    obtain ⟨tl1, htl1⟩ : ∃ tl1, tl1 = tl - 1 := ⟨_, rfl⟩
    have eq9 : (t : Int) - 1 = (t1 : Int) := by omega
    have eq10 : (tl : Int) - 1 = (tl1 : Int) := by omega
    have eq11 : bits .and .u64 (n0 : Int) (t1 : Int) = (n : Int) := by
      rw [u64_and_nat _ _ (by omega) (by omega), ht1, ht, Nat.and_two_pow_sub_one_eq_mod, hn]
    have eq12 : bits .and .u64 (n : Int) (tl1 : Int) = (lo : Int) := by
      rw [u64_and_nat _ _ hnl (by omega), htl1, htl, Nat.and_two_pow_sub_one_eq_mod, hlo]
    have ht64 : t ≤ 9223372036854775808 := by omega
    have htl64 : tl ≤ 9223372036854775808 := by omega
    have htp : 0 < t := by omega
    have htlp : 0 < tl := by omega
    clear w0 w1 w2 w3 w4 hk hm hlow hd hn hnm hn64 hpowm hpowl hhi hlo hparts hhid hlod hC hp hpl hpp hppl ht htl ht1 htl1
  case' neg =>
    have hm6 : m = 64 := by omega
    have hnn := hn64 hm6
    have hge : ¬ ((m : Int) < 64) := by omega
    subst hnn
    by_cases hl64 : low < 64
    case' pos =>
      have hpl := hpowl hl64
      have hppl := Nat.two_pow_pos low
      obtain ⟨tl, htl⟩ : ∃ tl, tl = 2 ^ low := ⟨_, rfl⟩
      have eq8 : IntKind.u64.wrap (2 ^ low) = (tl : Int) := by
        have e : ((2 : Int) ^ low) = ((2 ^ low : Nat) : Int) := by simp
        rw [e, IntKind.wrap_u64, htl]; omega
      obtain ⟨tl1, htl1⟩ : ∃ tl1, tl1 = tl - 1 := ⟨_, rfl⟩
      have eq10 : (tl : Int) - 1 = (tl1 : Int) := by omega
      have eq12 : bits .and .u64 (n : Int) (tl1 : Int) = (lo : Int) := by
        rw [u64_and_nat _ _ hnl (by omega), htl1, htl, Nat.and_two_pow_sub_one_eq_mod, hlo]
      have htl64 : tl ≤ 9223372036854775808 := by omega
      have htlp : 0 < tl := by omega
      clear w0 w1 w2 w3 w4 hk hm hlow hd hn hnm hn64 hpowm hpowl hhi hlo hparts hhid hlod hC hpl hppl htl htl1 hm6
    case' neg =>
      have hl6 : low = 64 := by omega
      have eq8 : IntKind.u64.wrap (2 ^ low) = 0 := by
        have e : ((2 : Int) ^ low) = ((2 ^ low : Nat) : Int) := by simp
        rw [e, IntKind.wrap_u64, hl6]; decide
      have eq12 : bits .and .u64 (n : Int) (IntKind.u64.wrap (-1)) = (lo : Int) := by
        rw [show IntKind.u64.wrap (-1) = ((18446744073709551615 : Nat) : Int) by rw [IntKind.wrap_u64]; decide, u64_and_nat _ _ hnl (by omega), hlo, hl6]
        rw [show (18446744073709551615 : Nat) = 2 ^ 64 - 1 from rfl, Nat.and_two_pow_sub_one_eq_mod]
      clear w0 w1 w2 w3 w4 hk hm hlow hd hn hnm hn64 hpowm hpowl hhi hlo hparts hhid hlod hC hm6 hl6
  all_goals
    go_enter Try.func8, Try.ntmps8
    go_wp2_with fail
    refine (new_c _).mono ?_
    rintro e w' ⟨rfl, rfl⟩
    go_wp2_with fail
    refine (new_c _).mono ?_
    rintro e w' ⟨rfl, rfl⟩
    have hA0 : IsW w.heap.size w.heap.size [] [w.heap.size] ((w.alloc (.cells #[.slice none 0 0, .int .i64 0] 37)).alloc (.cells #[.slice none 0 0, .int .i64 0] 37)) := (isW_new w _ (Nat.le_refl _)).keeps ((Keeps.refl [] _).alloc _) (by simp)
    have hB0 : IsW w.heap.size (w.heap.size + 1) [] [w.heap.size + 1] ((w.alloc (.cells #[.slice none 0 0, .int .i64 0] 37)).alloc (.cells #[.slice none 0 0, .int .i64 0] 37)) := by
      have h := isW_new (w.alloc (.cells #[.slice none 0 0, .int .i64 0] 37)) w.heap.size (by simp)
      simpa using h
    have hK0 : Keeps [] w ((w.alloc (.cells #[.slice none 0 0, .int .i64 0] 37)).alloc (.cells #[.slice none 0 0, .int .i64 0] 37)) := ((Keeps.refl [] w).alloc _).alloc _
    go_wp2_with fail
    refine (rice_ok _ _ _ _ ah k _ hahl hk40 (by simp) hA0).mono ?_
    rintro e w1 ⟨rfl, F1, hA1, hK1, hF1⟩
    have ap1 := apart_of hF1 (G := [w.heap.size + 1]) (by simp) hB0.lt
    have hB1 := hB0.keeps hK1 (by simp)
    have hX1 : Keeps [] w w1 := hK0.trans hK1 (fun g hg => .inr (by simp at hg; omega))
    go_wp2_with fail
    refine (rice_ok _ _ _ _ ah k _ hahl hk40 (by simp) hB1).mono ?_
    rintro e w2 ⟨rfl, G2, hB2, hK2, hG2⟩
    have ap2 := apart_of hG2 (G := F1) (apart_symm ap1) hA1.lt
    have hA2 := hA1.keeps hK2 (apart_symm ap1)
    have hX2 : Keeps [] w w2 := hX1.trans hK2 (fun g hg => .inr (hB1.from g hg))
    rw [List.nil_append, ← HC.out] at hA2 hB2
    go_wp2_with fail
    refine (put_ok _ _ _ _ n m _ hnl hm64 HZ.out.1 (by omega) hA2).mono ?_
    rintro e w3 ⟨rfl, F3, hA3, hK3, hF3⟩
    have ap3 := apart_of hF3 (G := G2) (apart_symm ap2) hB2.lt
    have hB3 := hB2.keeps hK3 (apart_symm ap2)
    have hX3 : Keeps [] w w3 := hX2.trans hK3 (fun g hg => .inr (hA2.from g hg))
    go_wp2_with fail
    refine (put_ok _ _ _ _ hi d _ hhil hd64 HZ.out.2.1 (by omega) hB3).mono ?_
    rintro e w4 ⟨rfl, G4, hB4, hK4, hG4⟩
    have ap4 := apart_of hG4 (G := F3) (apart_symm ap3) hA3.lt
    have hA4 := hA3.keeps hK4 (apart_symm ap3)
    have hX4 : Keeps [] w w4 := hX3.trans hK4 (fun g hg => .inr (hB3.from g hg))
    go_wp2_with fail
    refine (put_ok _ _ _ _ lo low _ hlol (by omega) HZ.out.2.2 (by rw [List.length_append, lowB_length]; omega) hB4).mono ?_
    rintro e w5 ⟨rfl, G5, hB5, hK5, hG5⟩
    have hA5 := hA4.keeps hK5 (apart_symm (apart_symm ap4))
    have hX5 : Keeps [] w w5 := hX4.trans hK5 (fun g hg => .inr (hB4.from g hg))
    rw [List.append_assoc, ← HP.out] at hB5
    have hl5 : (C ++ lowB n m).length = C.length + m := by rw [List.length_append, lowB_length]
    have HL5 := Lib.hid hl5
    have hCl := Lib.hid (congrArg List.length HC.out)
    have hA6 := hA5.drew
    have hB6 := hB5.drew
    have hby1 := bytes_c _ _ _ _ _ (by omega) hA6
    have hby2 := bytes_c _ _ _ _ _ (by omega) hB6
    generalize packB (C ++ lowB n m) = S at hby1 hby2
    have HY1 := Lib.hid hby1
    have HY2 := Lib.hid hby2
    have hle1 := Lib.hid (len_c _ _ _ _ _ hA6)
    have hle2 := Lib.hid (len_c _ _ _ _ _ hB6)
    have hsum : ((C ++ lowB n m).length : Int) = (C.length : Int) + m := by rw [HL5.out]; omega
    have HSUM := Lib.hid hsum
    clear hl5 hA6 hB6 hsum hby1 hby2
    go_wp2_with fail
    go_region_held3 (fun _ => True) (trivial) (first
      | (go_at_call_of 18 (Value.pointer (some ⟨w.heap.size, 0, none⟩)); refine HY1.out.mono ?_; rintro e w' ⟨rfl, rfl⟩)
      | (go_at_call 18; refine HY2.out.mono ?_; rintro e w' ⟨rfl, rfl⟩)
      | (go_at_call_of 16 (Value.pointer (some ⟨w.heap.size, 0, none⟩)); refine hle1.out.mono ?_; rintro e w' ⟨rfl, rfl⟩; rw [HSUM.out])
      | (go_at_call 16; refine hle2.out.mono ?_; rintro e w' ⟨rfl, rfl⟩; rw [HSUM.out])
      | (go_at_call 34; rw [TM.out]; refine (code_c ah k _ hk40 hahl).mono ?_; rintro e w6 ⟨⟨v6, rfl, ⟨g6, cap6, rfl⟩, hown6⟩, hb6⟩; rw [← hCl.out]))
    go_wp2
    go_ret
    refine ⟨ret_bool ?_, below2 hX5.nil (below_of_drew hb6) hX5.size⟩
    rw [IntWalk.i64_in _ (by omega)]; simp
end Go.Proofs.Ytaapdblddpnhdaa
