/-
  Layer 2 (rice): each law's Go text returns true, for every input.
-/
import Derived.Test.YtaapdblddpnhdaaRiceRefW
import Derived.Test.YtaapdblddpnhdaaRiceRefR
import Derived.OpenShut
namespace Go.Proofs.Ytaapdblddpnhdaa
open Go.RowKit Go.Deep
attribute [local go_sem] str_size str_append str_toList str_get str_extract
set_option linter.unusedVariables false
set_option linter.unusedSimpArgs false

theorem riceE_ok {m : Nat} (h : m ≤ 40) : riceE m = 0 := by unfold riceE; rw [if_neg]; omega
theorem riceL_ok {m : Nat} (l : List Bool) (n : Nat) (h : m ≤ 40) : riceL l n m = l ++ code n m := by unfold riceL; rw [if_pos (riceE_ok h)]; rfl
theorem wrap_pow (m : Nat) (h : m ≤ 40) : IntKind.u64.wrap (2 ^ m) = ((2 ^ m : Nat) : Int) ∧ 2 ^ m ≤ 1099511627776 ∧ 0 < 2 ^ m := by
  have h1 : 2 ^ m ≤ 2 ^ 40 := Nat.pow_le_pow_right (by omega) h
  have h2 := Nat.two_pow_pos m
  refine ⟨?_, h1, h2⟩
  have e : ((2 : Int) ^ m) = ((2 ^ m : Nat) : Int) := by simp
  rw [e, IntKind.wrap_u64]
  omega
theorem IsW.lt {B p : Nat} {l : List Bool} {F : List Nat} {w : World} (h : IsW B p l F w) : ∀ k, k ∈ F → k < w.heap.size := by
  obtain ⟨⟨v, hp, hown, rfl⟩, hB⟩ := h
  intro k hk
  simp only [List.mem_cons, Option.mem_toList] at hk
  rcases hk with rfl | hk
  · exact lt_of_block hp
  · exact (hown.lt k hk).2
theorem IsW.from {B p : Nat} {l : List Bool} {F : List Nat} {w : World} (h : IsW B p l F w) : ∀ k, k ∈ F → B ≤ k := by
  obtain ⟨⟨v, hp, hown, rfl⟩, hB⟩ := h
  intro k hk
  simp only [List.mem_cons, Option.mem_toList] at hk
  rcases hk with rfl | hk
  · exact hB
  · exact (hown.lt k hk).1
theorem IsW.keeps {B p : Nat} {l : List Bool} {F G : List Nat} {w w' : World} (h : IsW B p l F w) (k : Keeps G w w') (hd : ∀ g, g ∈ F → g ∉ G) : IsW B p l F w' := by
  obtain ⟨⟨v, hp, hown, rfl⟩, hB⟩ := h
  exact ⟨⟨v, k.block hp (hd p (by simp)), k.row hown (fun g hg => hd g (by rw [hg]; simp)), rfl⟩, hB⟩
theorem IsW.drew {B p : Nat} {l : List Bool} {F : List Nat} {w : World} (h : IsW B p l F w) : IsW B p l F w.drew := ⟨h.ex, h.low⟩
/-- Behind calls on one writer that was made last. -/
theorem Wrote.below {B p : Nat} {l : List Bool} {w w' : World} (h : Wrote B p l [w.heap.size] (w.alloc (.cells #[.slice none 0 0, .int .i64 0] 37)) w') : Below w.heap.size w w' := by
  obtain ⟨F, _, hK, _⟩ := h
  exact (((Keeps.refl [] w).alloc _).trans hK (fun g hg => .inr (by simp at hg; omega))).nil
set_option maxRecDepth 100000 in
theorem law_RiceSmall (a0 : Int) (a1 : Int) (w : World) (w0 : (Lit.int .u64 a0).wf = true) (w1 : (Lit.int .u8 a1).wf = true) :
    Calls Try.prog 7 #[.int .u64 a0, .int .u8 a1] w fun e w' => e = .returned (.bool true) ∧ Below w.heap.size w w' := by
  obtain ⟨h1, h2⟩ := bounds_u64 w0
  obtain ⟨h3, h4⟩ := bounds_u8 w1
  obtain ⟨n, rfl⟩ : ∃ k : Nat, a0 = k := ⟨a0.toNat, by omega⟩
  obtain ⟨k, rfl⟩ : ∃ k : Nat, a1 = k := ⟨a1.toNat, by omega⟩
  obtain ⟨m, hm⟩ : ∃ m, k % 41 = m := ⟨_, rfl⟩
  have eq1 : (k : Int) % 41 = (m : Int) := by omega
  have hm40 : m ≤ 40 := by omega
  have hq := div_int n m
  have hcl := code_length n m
  obtain ⟨q, hqe⟩ : ∃ q, n / 2 ^ m = q := ⟨_, rfl⟩
  rw [hqe] at hq hcl
  obtain ⟨c, hc⟩ : ∃ c, (code n m).length = c := ⟨_, rfl⟩
  rw [hc] at hcl
  obtain ⟨hp1, hp2, hp3⟩ := wrap_pow m hm40
  have hdm : n = 2 ^ m * q + n % 2 ^ m := by rw [← hqe]; exact (Nat.div_add_mod n (2 ^ m)).symm
  have hmod := Nat.mod_lt n hp3
  obtain ⟨t, ht⟩ : ∃ t, 2 ^ m = t := ⟨_, rfl⟩
  rw [ht] at hp1 hp2 hp3 hdm hmod
  have hq0 : n < t ↔ q = 0 := by
    constructor
    · intro h
      rcases Nat.eq_zero_or_pos q with h0 | h0
      · exact h0
      · have := Nat.le_mul_of_pos_right t h0; omega
    · intro h; subst h; omega
  have hc1 : m + 1 ≤ c := by split at hcl <;> omega
  have hc2 : c ≤ 88 := by split at hcl <;> omega
  have hc3 : n < t → c = m + 1 := fun h => by have := hq0.1 h; rw [if_neg (by omega)] at hcl; omega
  have hc4 : ¬ n < t → m + 1 < c := fun h => by
    have : q ≠ 0 := fun e => h (hq0.2 e)
    split at hcl <;> omega
  have b1 : decide ((c : Int) < (m : Int) + 1) = false := by simp; omega
  have b2 : decide (88 < (c : Int)) = false := by simp; omega
  have hrice := fun (W : World) => rice_c W.heap.size W.heap.size [] [W.heap.size] n m _ (by omega) (by simp) (isW_new W _ (Nat.le_refl _))
  rw [riceE_ok hm40, riceL_ok _ _ hm40, List.nil_append] at hrice
  have HRI : Hid (∀ W : World, _) := hrice
  have HC := Lib.hid hc
  clear w0 w1 hm hqe hcl hdm hmod hq0 hrice ht hc hq
  by_cases hlt : n < t
  · have b3 : ((c : Int) == (m : Int) + 1) = true := by have := hc3 hlt; simp; omega
    clear hc3 hc4
    go_enter Try.func7, Try.ntmps7
    go_wp2_with fail
    refine (new_c _).mono ?_
    rintro e w' ⟨rfl, rfl⟩
    go_wp2_with fail
    refine (HRI.out w).mono ?_
    rintro e w1 ⟨rfl, hWr⟩
    obtain ⟨F1, hW1, hK1, hF1⟩ := hWr
    go_wp2_with fail
    refine (len_c _ _ _ _ _ hW1).mono ?_
    rintro e w' ⟨rfl, rfl⟩
    rw [HC.out]
    go_wp2_with fail
    refine (len_c _ _ _ _ _ hW1).mono ?_
    rintro e w' ⟨rfl, rfl⟩
    rw [HC.out]
    go_wp2_with fail
    refine (len_c _ _ _ _ _ hW1).mono ?_
    rintro e w' ⟨rfl, rfl⟩
    rw [HC.out]
    go_wp2_with fail
    go_ret
    exact ⟨rfl, Wrote.below ⟨F1, hW1, hK1, hF1⟩⟩
  · have b3 : decide ((m : Int) + 1 < (c : Int)) = true := by have := hc4 hlt; simp; omega
    have hge : ¬ ((n : Int) < (t : Int)) := by omega
    clear hc3 hc4
    go_enter Try.func7, Try.ntmps7
    go_wp2_with fail
    refine (new_c _).mono ?_
    rintro e w' ⟨rfl, rfl⟩
    go_wp2_with fail
    refine (HRI.out w).mono ?_
    rintro e w1 ⟨rfl, hWr⟩
    obtain ⟨F1, hW1, hK1, hF1⟩ := hWr
    go_wp2_with fail
    refine (len_c _ _ _ _ _ hW1).mono ?_
    rintro e w' ⟨rfl, rfl⟩
    rw [HC.out]
    go_wp2_with fail
    refine (len_c _ _ _ _ _ hW1).mono ?_
    rintro e w' ⟨rfl, rfl⟩
    rw [HC.out]
    go_wp2_with fail
    refine (len_c _ _ _ _ _ hW1).mono ?_
    rintro e w' ⟨rfl, rfl⟩
    rw [HC.out]
    go_wp2_with fail
    go_ret
    exact ⟨rfl, Wrote.below ⟨F1, hW1, hK1, hF1⟩⟩
/-- The bits of three numbers, read back one by one. -/
theorem rest_zero (l : List Bool) : rest (packB l) 0 = l ++ List.replicate (8 * ((l.length + 7) / 8) - l.length) false := by
  unfold rest; rw [List.drop_zero, bitsOf_packB]
theorem rest_next (s : List UInt8) (a : Nat) (x r : List Bool) (h : rest s a = x ++ r) : rest s (a + x.length) = r := by
  rw [← rest_drop, h, List.drop_left' rfl]
theorem endE_zeros (n : Nat) (h : n < 8) : endE (List.replicate n false) = 0 := by
  unfold endE; rw [if_neg]; rw [num_false]; simp; omega
theorem putE_ok {n b : Nat} (hb : b ≤ 64) (h : n / 2 ^ b = 0) : putE n b = 0 := by unfold putE; rw [if_neg]; simp only [Int.toNat_natCast]; omega
theorem putL_ok {n b : Nat} (l : List Bool) (hb : b ≤ 64) (h : n / 2 ^ b = 0) : putL l n b = l ++ lowB n b := by unfold putL; rw [if_pos (putE_ok hb h)]; rfl
set_option maxRecDepth 100000 in
theorem law_RiceFar (a0 : Int) (a1 : Int) (w : World) (w0 : (Lit.int .u64 a0).wf = true) (w1 : (Lit.int .u8 a1).wf = true) :
    Calls Try.prog 9 #[.int .u64 a0, .int .u8 a1] w fun e w' => e = .returned (.bool true) ∧ Below w.heap.size w w' := by
  obtain ⟨h1, h2⟩ := bounds_u64 w0
  obtain ⟨h3, h4⟩ := bounds_u8 w1
  obtain ⟨n, rfl⟩ : ∃ k : Nat, a0 = k := ⟨a0.toNat, by omega⟩
  obtain ⟨k, rfl⟩ : ∃ k : Nat, a1 = k := ⟨a1.toNat, by omega⟩
  obtain ⟨m, hm⟩ : ∃ m, k % 41 = m := ⟨_, rfl⟩
  have eq1 : (k : Int) % 41 = (m : Int) := by omega
  have hm40 : m ≤ 40 := by omega
  obtain ⟨-, hp2, hp3⟩ := wrap_pow m hm40
  obtain ⟨x, hx⟩ : ∃ x, x = 24 * 2 ^ m := ⟨_, rfl⟩
  have eq2 : IntKind.u64.wrap (24 * 2 ^ m) = (x : Int) := by
    have e : ((24 : Int) * 2 ^ m) = ((24 * 2 ^ m : Nat) : Int) := by simp
    rw [e, ← hx, IntKind.wrap_u64]; omega
  obtain ⟨y, hy⟩ : ∃ y, y = x - 1 := ⟨_, rfl⟩
  have eq3 : (x : Int) - 1 = (y : Int) := by omega
  have hxl : x < 18446744073709551616 := by omega
  have hyl : y < 18446744073709551616 := by omega
  have hxq : x / 2 ^ m = 24 := by rw [hx]; exact Nat.mul_div_cancel 24 hp3
  have hyq : y / 2 ^ m = 23 := by
    have : y = 2 ^ m * 23 + (2 ^ m - 1) := by omega
    rw [this, Nat.mul_add_div hp3, Nat.div_eq_of_lt (by omega)]
  have hcx : (code x m).length = 88 := by rw [code_length, if_pos (by omega)]
  have hcy : (code y m).length = 24 + m := by rw [code_length, if_neg (by omega), hyq]
  obtain ⟨c, hc⟩ : ∃ c, (code n m).length = c := ⟨_, rfl⟩
  have hcl := code_length n m
  rw [hc] at hcl
  have hq := div_int n m
  obtain ⟨q, hqe⟩ : ∃ q, n / 2 ^ m = q := ⟨_, rfl⟩
  rw [hqe] at hq hcl
  have hc88 : c ≤ 88 := by split at hcl <;> omega
  have hqn : q ≤ n := by rw [← hqe]; exact Nat.div_le_self _ _
  obtain ⟨L, hL⟩ : ∃ L, L = code n m ++ code x m ++ code y m := ⟨_, rfl⟩
  have hLlen : L.length = c + 88 + 24 + m := by rw [hL, List.length_append, List.length_append, hc, hcx, hcy]; omega
  obtain ⟨s, hs⟩ : ∃ s, s = packB L := ⟨_, rfl⟩
  have hslen : 8 * s.length = 8 * ((L.length + 7) / 8) := by rw [hs, packB_length]
  have hr0 : rest s 0 = code n m ++ (code x m ++ (code y m ++ List.replicate (8 * ((L.length + 7) / 8) - L.length) false)) := by
    rw [hs, rest_zero, hL]; simp
  have hr1 := rest_next s 0 _ _ hr0
  rw [hc, Nat.zero_add] at hr1
  have hr2 := rest_next s c _ _ hr1
  rw [hcx] at hr2
  have hr3 := rest_next s (c + 88) _ _ hr2
  rw [hcy] at hr3
  obtain ⟨d1, d2, d3⟩ := dec_code n m (code x m ++ (code y m ++ List.replicate (8 * ((L.length + 7) / 8) - L.length) false)) (by omega) hm40
  obtain ⟨e1, e2, e3⟩ := dec_code x m (code y m ++ List.replicate (8 * ((L.length + 7) / 8) - L.length) false) hxl hm40
  obtain ⟨f1, f2, f3⟩ := dec_code y m (List.replicate (8 * ((L.length + 7) / 8) - L.length) false) hyl hm40
  rw [← hr0] at d1 d2 d3
  rw [← hr1] at e1 e2 e3
  rw [← hr2] at f1 f2 f3
  rw [hc] at d3
  rw [hcx] at e3
  rw [hcy] at f3
  have hsl : s.length ≤ 100 := by omega
  have hB0 := fun (p : Nat) (W : World) (h : IsR _ p s 0 W) => rdRice_c p s 0 m W (by omega) (by omega) h
  have hB1 := fun (p : Nat) (W : World) (h : IsR _ p s c W) => rdRice_c p s c m W (by omega) (by omega) h
  have hB2 := fun (p : Nat) (W : World) (h : IsR _ p s (c + 88) W) => rdRice_c p s (c + 88) m W (by omega) (by omega) h
  have hB3 := fun (p : Nat) (W : World) (h : IsR _ p s (c + 88 + (24 + m)) W) => end_c p s (c + 88 + (24 + m)) W (by omega) (by omega) h
  rw [d1, d2, d3, Nat.zero_add] at hB0
  rw [e1, e2, e3] at hB1
  rw [f1, f2, f3] at hB2
  rw [hr3, endE_zeros _ (by omega)] at hB3
  have H0 : Hid (∀ (p : Nat) (W : World) (h : IsR _ p s 0 W), _) := hB0
  have H1 : Hid (∀ (p : Nat) (W : World) (h : IsR _ p s c W), _) := hB1
  have H2 : Hid (∀ (p : Nat) (W : World) (h : IsR _ p s (c + 88) W), _) := hB2
  have H3 : Hid (∀ (p : Nat) (W : World) (h : IsR _ p s (c + 88 + (24 + m)) W), _) := hB3
  have hrice := fun (W : World) => rice_c W.heap.size W.heap.size [] [W.heap.size] n m _ (by omega) (by simp) (isW_new W _ (Nat.le_refl _))
  rw [riceE_ok hm40, riceL_ok _ _ hm40, List.nil_append] at hrice
  have HRI : Hid (∀ W : World, _) := hrice
  have hrx := fun (B p : Nat) (F : List Nat) (W : World) (h : IsW B p (code n m) F W) => rice_c B p (code n m) F x m W (by omega) (by omega) h
  rw [riceE_ok hm40, riceL_ok _ _ hm40] at hrx
  have HRX : Hid (∀ (B p : Nat) (F : List Nat) (W : World) (h : IsW B p (code n m) F W), _) := hrx
  have hry := fun (B p : Nat) (F : List Nat) (W : World) (h : IsW B p (code n m ++ code x m) F W) => rice_c B p (code n m ++ code x m) F y m W (by omega) (by rw [List.length_append, hc, hcx]; omega) h
  rw [riceE_ok hm40, riceL_ok _ _ hm40, ← hL] at hry
  have HRY : Hid (∀ (B p : Nat) (F : List Nat) (W : World) (h : IsW B p (code n m ++ code x m) F W), _) := hry
  have hby := fun (B p : Nat) (F : List Nat) (W : World) (h : IsW B p L F W) => bytes_c B p L F W (by omega) h
  rw [← hs] at hby
  have HBY : Hid (∀ (B p : Nat) (F : List Nat) (W : World) (h : IsW B p L F W), _) := hby
  have hle := fun (B p : Nat) (F : List Nat) (W : World) (h : IsW B p L F W) => len_c B p L F W h
  rw [hLlen] at hle
  have HLE : Hid (∀ (B p : Nat) (F : List Nat) (W : World) (h : IsW B p L F W), _) := hle
  have hfar : c = if 24 ≤ q then 88 else q + 1 + m := hcl
  clear w0 w1 hm hx hy hxq hyq hcx hcy hc hcl hqe hL hLlen hs hslen hr0 hr1 hr2 hr3 d1 d2 d3 e1 e2 e3 f1 f2 f3 hB0 hB1 hB2 hB3 hrice hrx hry hby hle hp2 hp3
  by_cases h24 : 24 ≤ q
  case' pos =>
    rw [if_pos h24] at hfar
    have hb24 : decide (24 ≤ (q : Int)) = true := by simp; omega
    have hsum : ((88 : Int) + 88 + 24 + m) = ((c + 88 + 24 + m : Nat) : Int) := by omega
  case' neg =>
    rw [if_neg h24] at hfar
    have hb24 : decide (24 ≤ (q : Int)) = false := by simp; omega
    have hsum : ((q : Int) + 1 + m + 88 + 24 + m) = ((c + 88 + 24 + m : Nat) : Int) := by omega
  all_goals
    have HS := Lib.hid hsum
    have hq100 : q < 18446744073709551616 := by omega
    clear hfar hsum
    go_enter Try.func9, Try.ntmps9
    go_wp2_with fail
    refine (new_c _).mono ?_
    rintro e w' ⟨rfl, rfl⟩
    go_wp2_with fail
    refine (HRI.out w).mono ?_
    rintro e w1 ⟨rfl, F1, hW1, hK1, hF1⟩
    go_wp2_with fail
    refine (HRX.out _ _ _ _ hW1).mono ?_
    rintro e w2 ⟨rfl, F2, hW2, hK2, hF2⟩
    go_wp2_with fail
    refine (HRY.out _ _ _ _ hW2).mono ?_
    rintro e w3 ⟨rfl, F3, hW3, hK3, hF3⟩
    have hb3 : Below w.heap.size w w3 := Wrote.below (Wrote.trans hK1 hF1 (Wrote.trans hK2 hF2 ⟨F3, hW3, hK3, hF3⟩))
    go_wp2_with fail
    refine (HBY.out _ _ _ _ hW3).mono ?_
    rintro e w' ⟨rfl, rfl⟩
    go_wp2_with fail
    refine (read_c s _ (by omega)).mono ?_
    rintro e w4 ⟨p4, rfl, hR4, hp4, hK4⟩
    go_wp2_with fail
    refine (H0.out _ _ hR4).mono ?_
    rintro e w5 ⟨rfl, hR5, hK5⟩
    go_wp2_with fail
    refine (H1.out _ _ hR5).mono ?_
    rintro e w6 ⟨rfl, hR6, hK6⟩
    go_wp2_with fail
    refine (H2.out _ _ hR6).mono ?_
    rintro e w7 ⟨rfl, hR7, hK7⟩
    have hK37 : Keeps [p4] w3 w7 := (((hK4.more (G := [p4]) (by simp)).trans hK5 (fun g hg => .inl hg)).trans hK6 (fun g hg => .inl hg)).trans hK7 (fun g hg => .inl hg)
    have hW7 := hW3.keeps hK37 (fun g hg h => by have := hW3.lt g hg; simp at h; omega)
    have hb7 : Below w.heap.size w w7 := hb3.trans (hK37.to hb3.size (fun f hf => by simp at hf; have := hb3.size; omega))
    go_wp2_with fail
    refine (HLE.out _ _ _ _ hW7).mono ?_
    rintro e w' ⟨rfl, rfl⟩
    rw [← HS.out]
    go_wp2_with fail
    refine (H3.out _ _ hR7).mono ?_
    rintro e w8 ⟨rfl, hK8⟩
    go_wp2_with fail
    go_ret
    exact ⟨rfl, below2 hb7 hK8.nil hb7.size⟩
end Go.Proofs.Ytaapdblddpnhdaa
