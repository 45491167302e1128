/-
  Layer 1 (zig): each law's Go text returns true, for every input.
-/
import Derived.Test.YtjpbmdkobnjfgaaZigRef
import Derived.OpenShut
namespace Go.Proofs.Ytjpbmdkobnjfgaa
open Go.RowKit Go.Deep
attribute [local go_sem] str_size str_append str_toList str_get str_extract
theorem law_ZigFolds (a0 : Int) (a1 : Int) (w : World) (w0 : (Lit.int .i64 a0).wf = true) (w1 : (Lit.int .u64 a1).wf = true) :
    Calls Try.prog 5 #[.int .i64 a0, .int .u64 a1] w fun e w' => e = .returned (.bool true) ∧ Below w.heap.size w w' := by
  obtain ⟨h1, h2⟩ := bounds_i64 w0
  obtain ⟨h3, h4⟩ := bounds_u64 w1
  obtain ⟨k, rfl⟩ : ∃ k : Nat, a1 = k := ⟨a1.toNat, by omega⟩
  have hr := fold_range a0 h1 h2
  have hu := unfold_range k h3 h4
  have e1 := unfold_fold a0
  have e2 := fold_unfold k h3
  obtain ⟨m, hm⟩ : ∃ m : Nat, fold a0 = m := ⟨(fold a0).toNat, by omega⟩
  obtain ⟨j, hj⟩ : ∃ j : Int, unfold k = j := ⟨_, rfl⟩
  rw [hm] at hr e1
  rw [hj] at hu e2
  have hsmall : -1000 ≤ a0 → a0 ≤ 1000 → m ≤ 2000 := fun x y => by unfold fold at hm; split at hm <;> omega
  have HM := Lib.hid hm
  have HJ := Lib.hid hj
  have E1 := Lib.hid e1
  have E2 := Lib.hid e2
  obtain ⟨hu1, hu2⟩ := hu
  have HS : Hid (-1000 ≤ a0 → a0 ≤ 1000 → m ≤ 2000) := hsmall
  clear hm hj e1 e2 hsmall w0 w1
  go_enter Try.func5, Try.ntmps5
  go_wp2_with fail
  refine (fold_c a0 _ h1 h2).mono ?_
  rintro e w' ⟨rfl, rfl⟩
  rw [HM.out]
  go_wp2_with fail
  refine (refFold_c a0 _ h1 h2).mono ?_
  rintro e w' ⟨rfl, rfl⟩
  rw [HM.out]
  go_wp2_with fail
  refine (unfold_c m _ (by omega)).mono ?_
  rintro e w' ⟨rfl, rfl⟩
  rw [E1.out]
  go_wp2_with fail
  refine (unfold_c k _ (by omega)).mono ?_
  rintro e w' ⟨rfl, rfl⟩
  rw [HJ.out]
  go_wp2_with fail
  refine (fold_c j _ hu1 hu2).mono ?_
  rintro e w' ⟨rfl, rfl⟩
  rw [E2.out]
  by_cases c1 : a0 < -1000
  · go_wp2_with fail
    go_ret
    exact ⟨rfl, Below.refl _ _⟩
  · by_cases c2 : 1000 < a0
    · go_wp2_with fail
      go_ret
      exact ⟨rfl, Below.refl _ _⟩
    · have hs := HS.out (by omega) (by omega)
      go_wp2_with fail
      go_ret
      exact ⟨ret_bool (by simp; omega), Below.refl _ _⟩
theorem law_ZigWrites (a0 : Int) (a1 : Int) (a2 : ByteArray) (w : World) (w0 : (Lit.int .u64 a0).wf = true) (w1 : (Lit.int .i64 a1).wf = true) (w2 : a2.size ≤ maxLen) :
    Calls Try.prog 3 #[.int .u64 a0, .int .i64 a1, .string a2] w fun e w' => e = .returned (.bool true) ∧ Below w.heap.size w w' := by
  obtain ⟨h1, h2⟩ := bounds_u64 w0
  obtain ⟨h3, h4⟩ := bounds_i64 w1
  obtain ⟨n, rfl⟩ : ∃ k : Nat, a0 = k := ⟨a0.toNat, by omega⟩
  obtain ⟨s, rfl⟩ := str_of a2
  clear w0 w1
  rw [str_size] at w2
  unfold maxLen at w2
  by_cases hs : 4096 < (s.length : Int)
  · go_enter Try.func3, Try.ntmps3
    go_wp2
    go_ret
    exact ⟨rfl, Below.refl _ _⟩
  · go_enter Try.func3, Try.ntmps3
    go_wp2_with fail
    refine (uint_c n _ (by omega)).mono ?_
    rintro e w' ⟨rfl, hb1⟩
    go_wp2_with fail
    refine (refUint_c n _ (by omega)).mono ?_
    rintro e w' ⟨rfl, hb2⟩
    go_wp2_with fail
    refine (int_c a1 _ h3 h4).mono ?_
    rintro e w' ⟨rfl, hb3⟩
    go_wp2_with fail
    refine (refInt_c a1 _ h3 h4).mono ?_
    rintro e w' ⟨rfl, hb4⟩
    go_wp2_with fail
    refine (text_c s _ (by omega)).mono ?_
    rintro e w' ⟨rfl, hb5⟩
    go_wp2_with fail
    refine (refText_c s _ (by omega)).mono ?_
    rintro e w' ⟨rfl, hb6⟩
    go_wp2_with fail
    go_ret
    have k1 := below2 hb1 hb2 hb1.size
    have k2 := below2 k1 hb3 k1.size
    have k3 := below2 k2 hb4 k2.size
    have k4 := below2 k3 hb5 k3.size
    exact ⟨rfl, below2 k4 hb6 k4.size⟩
theorem law_ZigReads (a0 : ByteArray) (a1 : Int) (w : World) (w0 : a0.size ≤ maxLen) (w1 : (Lit.int .i64 a1).wf = true) :
    Calls Try.prog 4 #[.string a0, .int .i64 a1] w fun e w' => e = .returned (.bool true) ∧ Below w.heap.size w w' := by
  obtain ⟨h1, h2⟩ := bounds_i64 w1
  obtain ⟨l, rfl⟩ := str_of a0
  clear w1
  rw [str_size] at w0
  unfold maxLen at w0
  by_cases hs : 4096 < (l.length : Int)
  · go_enter Try.func4, Try.ntmps4
    go_wp2
    go_ret
    exact ⟨rfl, Below.refl _ _⟩
  · obtain ⟨v1, n1, e1, g1⟩ : ∃ a b c, getU l a1 = (a, b, c) := ⟨_, _, _, rfl⟩
    obtain ⟨v2, n2, e2, g2⟩ : ∃ a b c, getI l a1 = (a, b, c) := ⟨_, _, _, rfl⟩
    obtain ⟨v3, n3, e3, g3⟩ : ∃ a b c, getT l a1 = (a, b, c) := ⟨_, _, _, rfl⟩
    have G1 := Lib.hid g1
    have G2 := Lib.hid g2
    have G3 := Lib.hid g3
    clear g1 g2 g3
    go_enter Try.func4, Try.ntmps4
    go_wp2_with fail
    refine (getUint_c l a1 _ _ _ _ (by omega) h1 h2 G1.out).mono ?_
    rintro e w' ⟨rfl, rfl⟩
    go_wp2_with fail
    refine (refGetUint_c l a1 _ _ _ _ (by omega) h1 h2 G1.out).mono ?_
    rintro e w' ⟨rfl, hb1⟩
    go_wp2_with fail
    refine (getInt_c l a1 _ _ _ _ (by omega) h1 h2 G2.out).mono ?_
    rintro e w' ⟨rfl, rfl⟩
    go_wp2_with fail
    refine (refGetInt_c l a1 _ _ _ _ (by omega) h1 h2 G2.out).mono ?_
    rintro e w' ⟨rfl, hb2⟩
    go_wp2_with fail
    refine (getText_c l a1 _ _ _ _ (by omega) h1 h2 G3.out).mono ?_
    rintro e w' ⟨rfl, hb3⟩
    go_wp2_with fail
    refine (refGetText_c l a1 _ _ _ _ (by omega) h1 h2 G3.out).mono ?_
    rintro e w' ⟨rfl, hb4⟩
    go_wp2_with fail
    refine (getUint_c [] 0 0 0 10 _ (by simp) (by omega) (by omega) (by simp [getU, lead])).mono ?_
    rintro e w' ⟨rfl, rfl⟩
    go_wp2_with fail
    go_ret
    have k1 := below2 hb1 hb2 hb1.size
    have k2 := below2 k1 hb3 k1.size
    exact ⟨rfl, below2 k2 hb4 k2.size⟩
set_option maxRecDepth 100000 in
theorem law_ZigLong (a0 : Int) (w : World) (w0 : (Lit.int .u64 a0).wf = true) :
    Calls Try.prog 8 #[.int .u64 a0] w fun e w' => e = .returned (.bool true) ∧ Below w.heap.size w w' := by
  obtain ⟨h1, h2⟩ := bounds_u64 w0
  obtain ⟨n, rfl⟩ : ∃ k : Nat, a0 = k := ⟨a0.toNat, by omega⟩
  clear w0
  have hl := uv_len10 (n := n) (by omega)
  have hp := uv_pos n
  have hge := fun k => uv_len_ge k n
  have hle : ∀ k, (uv n).length = k + 1 → n < 128 ^ (k + 1) := fun k e => by
    have := val_lt (uv n)
    rw [val_uv, e] at this
    exact this
  obtain ⟨k, hk⟩ : ∃ k, (uv n).length = k + 1 := ⟨(uv n).length - 1, by omega⟩
  rw [hk] at hl
  have f1 := hle k hk
  have f2 : 1 ≤ k → 128 ^ k ≤ n := fun h => by
    have := hge (k - 1) (by omega)
    rwa [show k - 1 + 1 = k by omega] at this
  have HK := Lib.hid hk
  clear hge hle hp hk
  obtain rfl | hk1 : k = 0 ∨ 1 ≤ k := by omega
  · clear f2
    go_enter Try.func8, Try.ntmps8
    go_wp2_with fail
    refine (uint_c n _ (by omega)).mono ?_
    rintro e w' ⟨rfl, hb1⟩
    have hk := HK.out
    go_wp2_with fail
    go_ret
    exact ⟨rfl, hb1⟩
  have f3 := f2 hk1
  clear f2
  have hpow : ∀ j : Nat, j ≤ 9 → IntKind.u64.wrap (2 ^ (7 * j)) = ((128 ^ j : Nat) : Int) := fun j hj => by
    have e : ((2 : Int) ^ (7 * j)) = ((128 ^ j : Nat) : Int) := by rw [← pow7]; simp
    have h9 : 128 ^ j ≤ 9223372036854775808 := Nat.pow_le_pow_right (n := 128) (by omega) hj
    rw [e, IntKind.wrap_u64]
    generalize 128 ^ j = P at h9 ⊢
    omega
  have hB : IntKind.u64.wrap (2 ^ (7 * k)) ≤ (n : Int) := by rw [hpow k (by omega)]; omega
  have hO : ((k : Int) + 1 == 1) = false := by simp; omega
  by_cases h9 : k = 9
  · have hT : ((k : Int) + 1 == 10) = true := by simp; omega
    clear hpow f1 f3 h9
    go_enter Try.func8, Try.ntmps8
    go_wp2_with fail
    refine (uint_c n _ (by omega)).mono ?_
    rintro e w' ⟨rfl, hb1⟩
    have hk := HK.out
    go_wp2_with fail
    go_ret
    exact ⟨rfl, hb1⟩
  · have hT : ((k : Int) + 1 == 10) = false := by simp; omega
    have hA : (n : Int) < IntKind.u64.wrap (2 ^ (7 * (k + 1))) := by rw [hpow (k + 1) (by omega)]; omega
    clear hpow f1 f3
    go_enter Try.func8, Try.ntmps8
    go_wp2_with fail
    refine (uint_c n _ (by omega)).mono ?_
    rintro e w' ⟨rfl, hb1⟩
    have hk := HK.out
    go_wp2_with fail
    go_ret
    exact ⟨ret_bool (by simp), hb1⟩
set_option maxHeartbeats 1000000 in
theorem law_ZigOne (a0 : ByteArray) (w : World) (w0 : a0.size ≤ maxLen) :
    Calls Try.prog 7 #[.string a0] w fun e w' => e = .returned (.bool true) ∧ Below w.heap.size w w' := by
  obtain ⟨l, rfl⟩ := str_of a0
  rw [str_size] at w0
  unfold maxLen at w0
  by_cases hs : 1024 < (l.length : Int)
  · go_enter Try.func7, Try.ntmps7
    go_wp2
    go_ret
    exact ⟨rfl, Below.refl _ _⟩
  · obtain ⟨v, nx, er, hg⟩ : ∃ a b c, getU l 0 = (a, b, c) := ⟨_, _, _, rfl⟩
    have hr := getU_range hg
    obtain ⟨v, rfl⟩ : ∃ m : Nat, v = m := ⟨v.toNat, by omega⟩
    obtain ⟨nx, rfl⟩ : ∃ m : Nat, nx = m := ⟨nx.toNat, by omega⟩
    have G := Lib.hid hg
    by_cases he : er = 0
    · subst he
      have hu := getU_zero hg
      have hp := uv_pos v
      obtain ⟨r1, r2, -, r4, -⟩ := hr
      have hlen : nx = (uv v).length := by rw [hu, List.length_take]; omega
      have hcut := getU_cut [] v (nx - 1) (by omega) (by omega)
      have htk : (uv v).take (nx - 1) = l.take (nx - 1) := by rw [hu, List.take_take, Nat.min_eq_left (by omega)]
      rw [List.nil_append, htk] at hcut
      have h1 : 1 ≤ nx := by omega
      have HC : Hid (getU (l.take (nx - 1)) 0 = (0, 0, 10)) := hcut
      have HU := Lib.hid hu
      have hbeq : (uv v == l.take nx) = true := by rw [hu]; simp
      have hsl := fun (W : World) => run_slice_string_to_if (P := Try.prog) (w := W) 9 (str l) .i64 (nx : Int) Try.underlying9
      simp only [str_size, show (0 : Int) ≤ nx ∧ (nx : Int) ≤ l.length from ⟨by omega, by omega⟩, and_self, if_true, str_extract, Int.toNat_natCast, List.drop_zero, Nat.sub_zero] at hsl
      clear hg hu hp hlen hcut htk
      go_enter Try.func7, Try.ntmps7
      go_wp2_with fail
      refine (getUint_c l 0 _ _ _ _ (by omega) (by omega) (by omega) G.out).mono ?_
      rintro e w' ⟨rfl, rfl⟩
      go_wp2_with fail
      refine (refGetUint_c l 0 _ _ _ _ (by omega) (by omega) (by omega) G.out).mono ?_
      rintro e w' ⟨rfl, hb1⟩
      go_wp2_with fail
      refine (getUint_c (l.take (nx - 1)) 0 _ _ _ _ (by rw [List.length_take]; omega) (by omega) (by omega) HC.out).mono ?_
      rintro e w' ⟨rfl, rfl⟩
      go_wp2_with fail
      go_region_with (go_at_call 11; refine (uint_c v _ (by omega)).mono ?_; rintro e w' ⟨rfl, hb2⟩)

      go_wp2_with fail
      go_ret
      refine ⟨?_, below2 hb1 (below_of_drew hb2) hb1.size⟩
      simp [go_sem]
    · have he' : (er != 0) = true := by simpa using he
      obtain ⟨-, -, -, -, -, -, r7, -⟩ := hr
      obtain ⟨rv, rn⟩ := r7 he
      obtain rfl : v = 0 := by omega
      obtain rfl : nx = 0 := by omega
      clear hg rv rn r7
      go_enter Try.func7, Try.ntmps7
      go_wp2_with fail
      refine (getUint_c l 0 _ _ _ _ (by omega) (by omega) (by omega) G.out).mono ?_
      rintro e w' ⟨rfl, rfl⟩
      go_wp2_with fail
      refine (refGetUint_c l 0 _ _ _ _ (by omega) (by omega) (by omega) G.out).mono ?_
      rintro e w' ⟨rfl, hb1⟩
      go_wp2_with fail
      go_ret
      exact ⟨rfl, hb1⟩
set_option maxHeartbeats 1000000 in
theorem law_ZigCut (a0 : Int) (a1 : ByteArray) (a2 : Int) (w : World) (w0 : (Lit.int .u64 a0).wf = true) (w1 : a1.size ≤ maxLen) (w2 : (Lit.int .u8 a2).wf = true) :
    Calls Try.prog 9 #[.int .u64 a0, .string a1, .int .u8 a2] w fun e w' => e = .returned (.bool true) ∧ Below w.heap.size w w' := by
  obtain ⟨h1, h2⟩ := bounds_u64 w0
  obtain ⟨h3, h4⟩ := bounds_u8 w2
  obtain ⟨n, rfl⟩ : ∃ k : Nat, a0 = k := ⟨a0.toNat, by omega⟩
  obtain ⟨c, rfl⟩ : ∃ k : Nat, a2 = k := ⟨a2.toNat, by omega⟩
  obtain ⟨s, rfl⟩ := str_of a1
  clear w0 w2
  rw [str_size] at w1
  unfold maxLen at w1
  by_cases hs : 1024 < (s.length : Int)
  · go_enter Try.func9, Try.ntmps9
    go_wp2
    go_ret
    exact ⟨rfl, Below.refl _ _⟩
  · have hl := uv_len10 (n := n) (by omega)
    have hp := uv_pos n
    obtain ⟨u, hu⟩ : ∃ u, uv n = u := ⟨_, rfl⟩
    obtain ⟨m, hm⟩ : ∃ m, u.length = m := ⟨_, rfl⟩
    have hk : c % m < m := Nat.mod_lt _ (by rw [← hm, ← hu]; omega)
    obtain ⟨k, hke⟩ : ∃ k, c % m = k := ⟨_, rfl⟩
    have hcut := getU_cut s n k (by omega) (by rw [hu, hm]; omega)
    rw [hu] at hcut
    rw [hu, hm] at hl hp
    rw [hke] at hk
    have hout : getU (s ++ u) ((s.length : Int) + m + 1) = (0, 0, 1) := getU_out (.inr (by rw [List.length_append, hm]; omega))
    have hrem : (c : Int) % (m : Int) = (k : Int) := by rw [← hke]; simp
    have hm0 : ((m : Int) == 0) = false := by simp; omega
    have HU := Lib.hid hu
    have HC := Lib.hid hcut
    have HO := Lib.hid hout
    clear hcut hout hu hke
    go_enter Try.func9, Try.ntmps9
    go_wp2_with fail
    refine (uint_c n _ (by omega)).mono ?_
    rintro e w' ⟨rfl, hb1⟩
    rw [HU.out]
    go_wp2_with fail
    refine (refUint_c n _ (by omega)).mono ?_
    rintro e w' ⟨rfl, hb2⟩
    rw [HU.out]
    go_wp2_with fail
    refine (getUint_c (s ++ u.take k) s.length 0 0 10 _ (by rw [List.length_append, List.length_take]; omega) (by omega) (by omega) HC.out).mono ?_
    rintro e w' ⟨rfl, rfl⟩
    go_wp2_with fail
    refine (getUint_c (s ++ u) _ 0 0 1 _ (by rw [List.length_append]; omega) (by omega) (by omega) HO.out).mono ?_
    rintro e w' ⟨rfl, rfl⟩
    go_wp2_with fail
    go_ret
    exact ⟨rfl, below2 hb1 hb2 hb1.size⟩
set_option maxHeartbeats 1000000 in
theorem law_ZigBack (a0 : ByteArray) (a1 : Int) (a2 : Int) (a3 : ByteArray) (a4 : ByteArray) (w : World) (w0 : a0.size ≤ maxLen) (w1 : (Lit.int .u64 a1).wf = true) (w2 : (Lit.int .i64 a2).wf = true) (w3 : a3.size ≤ maxLen) (w4 : a4.size ≤ maxLen) :
    Calls Try.prog 6 #[.string a0, .int .u64 a1, .int .i64 a2, .string a3, .string a4] w fun e w' => e = .returned (.bool true) ∧ Below w.heap.size w w' := by
  obtain ⟨h1, h2⟩ := bounds_u64 w1
  obtain ⟨h3, h4⟩ := bounds_i64 w2
  obtain ⟨n, rfl⟩ : ∃ k : Nat, a1 = k := ⟨a1.toNat, by omega⟩
  obtain ⟨p, rfl⟩ := str_of a0
  obtain ⟨s, rfl⟩ := str_of a3
  obtain ⟨q, rfl⟩ := str_of a4
  clear w1 w2
  rw [str_size] at w0 w3 w4
  unfold maxLen at w0 w3 w4
  by_cases c1 : 1024 < (p.length : Int)
  · go_enter Try.func6, Try.ntmps6
    go_wp2
    go_ret
    exact ⟨rfl, Below.refl _ _⟩
  by_cases c2 : 1024 < (s.length : Int)
  · go_enter Try.func6, Try.ntmps6
    go_wp2
    go_ret
    exact ⟨rfl, Below.refl _ _⟩
  by_cases c3 : 1024 < (q.length : Int)
  · go_enter Try.func6, Try.ntmps6
    go_wp2
    go_ret
    exact ⟨rfl, Below.refl _ _⟩
  have l1 := uv_len10 (n := n) (by omega)
  have l2 := iv_len a2 h3 h4
  have l3 := tx_len s (by omega)
  have g1 := getU_uv p (iv a2 ++ (tx s ++ q)) n (by omega)
  have g2 := getI_iv (p ++ uv n) (tx s ++ q) a2 h3 h4
  have g3 := getT_tx (p ++ uv n ++ iv a2) q s (by omega)
  rw [List.append_assoc] at g2 g3
  rw [List.append_assoc] at g3
  obtain ⟨u, hu⟩ : ∃ u, uv n = u := ⟨_, rfl⟩
  obtain ⟨i, hi⟩ : ∃ i, iv a2 = i := ⟨_, rfl⟩
  obtain ⟨t, ht⟩ : ∃ t, tx s = t := ⟨_, rfl⟩
  rw [hu] at g1 g2 g3 l1
  rw [hi] at g1 g2 g3 l2
  rw [ht] at g1 g2 g3 l3
  obtain ⟨T, hT⟩ : ∃ T, p ++ (u ++ (i ++ (t ++ q))) = T := ⟨_, rfl⟩
  have hTl : T.length = p.length + u.length + i.length + t.length + q.length := by rw [← hT]; simp; omega
  simp only [List.length_append, Int.natCast_add] at g1 g2 g3
  rw [hT] at g1 g2 g3
  have e1 : (p.length : Int) + u.length + i.length + t.length == (T.length : Int) - q.length := by simp; omega
  have HU := Lib.hid hu
  have HI := Lib.hid hi
  have HT := Lib.hid hT
  have HX := Lib.hid ht
  have G1 := Lib.hid g1
  have G2 := Lib.hid g2
  have G3 := Lib.hid g3
  have HL := Lib.hid hTl
  have hTl' : T.length ≤ 4000 := by omega
  clear hu hi ht hT g1 g2 g3 hTl
  go_enter Try.func6, Try.ntmps6
  go_wp2_with fail
  refine (uint_c n _ (by omega)).mono ?_
  rintro e w' ⟨rfl, hb1⟩
  rw [HU.out]
  go_wp2_with fail
  refine (int_c a2 _ h3 h4).mono ?_
  rintro e w' ⟨rfl, hb2⟩
  rw [HI.out]
  go_wp2_with fail
  refine (text_c s _ (by omega)).mono ?_
  rintro e w' ⟨rfl, hb3⟩
  rw [HX.out]
  go_wp2_with fail
  rw [HT.out]
  refine (getUint_c T _ _ _ _ _ (by omega) (by omega) (by omega) G1.out).mono ?_
  rintro e w' ⟨rfl, rfl⟩
  go_wp2_with fail
  refine (getInt_c T _ _ _ _ _ (by omega) (by omega) (by omega) G2.out).mono ?_
  rintro e w' ⟨rfl, rfl⟩
  go_wp2_with fail
  refine (getText_c T _ _ _ _ _ (by omega) (by omega) (by omega) G3.out).mono ?_
  rintro e w' ⟨rfl, hb4⟩
  go_wp2_with fail
  refine (refUint_c n _ (by omega)).mono ?_
  rintro e w' ⟨rfl, hb5⟩
  rw [HU.out]
  go_wp2_with fail
  go_ret
  have k1 := below2 hb1 hb2 hb1.size
  have k2 := below2 k1 hb3 k1.size
  have k3 := below2 k2 hb4 k2.size
  exact ⟨rfl, below2 k3 hb5 k3.size⟩
theorem pairs_inj (a b c d : Int) (s t : List UInt8) (ha : -9223372036854775808 ≤ a ∧ a ≤ 9223372036854775807) (hc : -9223372036854775808 ≤ c ∧ c ≤ 9223372036854775807) (hs : s.length < 18446744073709551616) (ht : t.length < 18446744073709551616)
    (h : iv a ++ (tx s ++ iv b) = iv c ++ (tx t ++ iv d)) : a = c ∧ b = d ∧ s = t := by
  have g1 := getI_iv [] (tx s ++ iv b) a ha.1 ha.2
  have g2 := getI_iv [] (tx t ++ iv d) c hc.1 hc.2
  simp only [List.nil_append] at g1 g2
  rw [h, g2] at g1
  simp only [Prod.mk.injEq] at g1
  obtain rfl := g1.1
  have h2 := List.append_cancel_left h
  have g3 := getT_tx [] (iv b) s hs
  have g4 := getT_tx [] (iv d) t ht
  simp only [List.nil_append] at g3 g4
  rw [h2, g4] at g3
  simp only [Prod.mk.injEq] at g3
  obtain rfl := g3.1
  have h3 := List.append_cancel_left h2
  exact ⟨rfl, iv_inj h3, rfl⟩
set_option maxHeartbeats 4000000 in
theorem law_ZigPairs (a0 : Int) (a1 : Int) (a2 : ByteArray) (a3 : Int) (a4 : Int) (a5 : ByteArray) (w : World) (w0 : (Lit.int .i64 a0).wf = true) (w1 : (Lit.int .i64 a1).wf = true) (w2 : a2.size ≤ maxLen) (w3 : (Lit.int .i64 a3).wf = true) (w4 : (Lit.int .i64 a4).wf = true) (w5 : a5.size ≤ maxLen) :
    Calls Try.prog 10 #[.int .i64 a0, .int .i64 a1, .string a2, .int .i64 a3, .int .i64 a4, .string a5] w fun e w' => e = .returned (.bool true) ∧ Below w.heap.size w w' := by
  obtain ⟨h1, h2⟩ := bounds_i64 w0
  obtain ⟨h3, h4⟩ := bounds_i64 w1
  obtain ⟨h5, h6⟩ := bounds_i64 w3
  obtain ⟨h7, h8⟩ := bounds_i64 w4
  obtain ⟨s, rfl⟩ := str_of a2
  obtain ⟨t, rfl⟩ := str_of a5
  clear w0 w1 w3 w4
  rw [str_size] at w2 w5
  unfold maxLen at w2 w5
  by_cases c1 : 1024 < (s.length : Int)
  · go_enter Try.func10, Try.ntmps10
    go_wp2
    go_ret
    exact ⟨rfl, Below.refl _ _⟩
  by_cases c2 : 1024 < (t.length : Int)
  · go_enter Try.func10, Try.ntmps10
    go_wp2
    go_ret
    exact ⟨rfl, Below.refl _ _⟩
  have l1 := iv_len a0 h1 h2
  have l2 := iv_len a1 h3 h4
  have l3 := iv_len a3 h5 h6
  have l4 := iv_len a4 h7 h8
  have l5 := tx_len s (by omega)
  have l6 := tx_len t (by omega)
  have hinj := pairs_inj a0 a1 a3 a4 s t ⟨h1, h2⟩ ⟨h5, h6⟩ (by omega) (by omega)
  have heq : ((iv a0 ++ (tx s ++ iv a1) == iv a3 ++ (tx t ++ iv a4)) == ((a0 == a3) && (a1 == a4) && (s == t))) = true := by
    by_cases e : iv a0 ++ (tx s ++ iv a1) = iv a3 ++ (tx t ++ iv a4)
    · obtain ⟨rfl, rfl, rfl⟩ := hinj e
      simp
    · have e1 : (iv a0 ++ (tx s ++ iv a1) == iv a3 ++ (tx t ++ iv a4)) = false := by simpa using e
      rw [e1]
      have e2 : ((a0 == a3) && (a1 == a4) && (s == t)) = false := by
        apply Bool.eq_false_iff.2
        intro h
        simp only [Bool.and_eq_true, beq_iff_eq] at h
        exact e (by rw [h.1.1, h.1.2, h.2])
      rw [e2]; rfl
  obtain ⟨A, hA⟩ : ∃ A, iv a0 = A := ⟨_, rfl⟩
  obtain ⟨B, hB⟩ : ∃ B, iv a1 = B := ⟨_, rfl⟩
  obtain ⟨C, hC⟩ : ∃ C, iv a3 = C := ⟨_, rfl⟩
  obtain ⟨D, hD⟩ : ∃ D, iv a4 = D := ⟨_, rfl⟩
  obtain ⟨X, hX⟩ : ∃ X, tx s = X := ⟨_, rfl⟩
  obtain ⟨Y, hY⟩ : ∃ Y, tx t = Y := ⟨_, rfl⟩
  rw [hA, hB, hC, hD, hX, hY] at heq
  rw [hA] at l1; rw [hB] at l2; rw [hC] at l3; rw [hD] at l4; rw [hX] at l5; rw [hY] at l6
  obtain ⟨x, hx⟩ : ∃ x, A ++ (X ++ B) = x := ⟨_, rfl⟩
  obtain ⟨y, hy⟩ : ∃ y, C ++ (Y ++ D) = y := ⟨_, rfl⟩
  rw [hx, hy] at heq
  have HA := Lib.hid hA
  have HB := Lib.hid hB
  have HC := Lib.hid hC
  have HD := Lib.hid hD
  have HX := Lib.hid hX
  have HY := Lib.hid hY
  have HE := Lib.hid heq
  clear hA hB hC hD hX hY hinj heq
  obtain ⟨β1, b1⟩ : ∃ b, (a0 == a3) = b := ⟨_, rfl⟩
  obtain ⟨β2, b2⟩ : ∃ b, (a1 == a4) = b := ⟨_, rfl⟩
  obtain ⟨β3, b3⟩ : ∃ b, (s == t) = b := ⟨_, rfl⟩
  obtain ⟨β4, b4⟩ : ∃ b, (x == y) = b := ⟨_, rfl⟩
  have he := HE.out
  rw [b1, b2, b3, b4] at he
  have H1 := Lib.hid b1
  have H2 := Lib.hid b2
  have H3 := Lib.hid b3
  have H4 := Lib.hid b4
  have H5 := Lib.hid he
  clear b1 b2 b3 b4 he HE
  go_enter Try.func10, Try.ntmps10
  go_wp2_with fail
  refine (int_c a0 _ h1 h2).mono ?_
  rintro e w' ⟨rfl, hb1⟩
  rw [HA.out]
  go_wp2_with fail
  refine (text_c s _ (by omega)).mono ?_
  rintro e w' ⟨rfl, hb2⟩
  rw [HX.out]
  go_wp2_with fail
  refine (int_c a1 _ h3 h4).mono ?_
  rintro e w' ⟨rfl, hb3⟩
  rw [HB.out]
  go_wp2_with fail
  refine (int_c a3 _ h5 h6).mono ?_
  rintro e w' ⟨rfl, hb4⟩
  rw [HC.out]
  go_wp2_with fail
  refine (text_c t _ (by omega)).mono ?_
  rintro e w' ⟨rfl, hb5⟩
  rw [HY.out]
  go_wp2_with fail
  refine (int_c a4 _ h7 h8).mono ?_
  rintro e w' ⟨rfl, hb6⟩
  rw [HD.out]
  have k1 := below2 hb1 hb2 hb1.size
  have k2 := below2 k1 hb3 k1.size
  have k3 := below2 k2 hb4 k2.size
  have k4 := below2 k3 hb5 k3.size
  have k5 := below2 k4 hb6 k4.size
  clear hb1 hb2 hb3 hb4 hb5 hb6 k1 k2 k3 k4
  have b1 := H1.out
  have b2 := H2.out
  have b3 := H3.out
  have b4 := H4.out
  have he := H5.out
  clear H1 H2 H3 H4 H5
  cases β1 <;> cases β2 <;> cases β3 <;> cases β4 <;> first | exact absurd he (by decide) | skip
  all_goals
    clear he
    go_wp2_with fail
    refine (refInt_c a0 _ h1 h2).mono ?_
    rintro e w1 ⟨rfl, hb1⟩
    rw [HA.out]
    go_wp2_with fail
    refine (refText_c s _ (by omega)).mono ?_
    rintro e w2 ⟨rfl, hb2⟩
    rw [HX.out]
    go_wp2_with fail
    refine (refInt_c a1 _ h3 h4).mono ?_
    rintro e w3 ⟨rfl, hb3⟩
    rw [HB.out]
    go_wp2_with fail
    go_ret
    have k6 := below2 k5 hb1 k5.size
    have k7 := below2 k6 hb2 k6.size
    exact ⟨rfl, below2 k7 hb3 k7.size⟩
end Go.Proofs.Ytjpbmdkobnjfgaa
