/-
  Layer 5 (match): the law MatchApart returns true.
-/
import Derived.Test.YtopnnhjfcfhihaaMatchA
namespace Go.Proofs.Ytopnnhjfcfhihaa
open Go.RowKit Go.Deep
attribute [local go_sem] str_size str_append str_toList str_get str_extract
set_option linter.unusedVariables false
set_option linter.unusedSimpArgs false
/-- A matcher without a set. -/
theorem one0_c (k : Int) (n v : List UInt8) (B : Option Addr) (len capB : Nat) (l : List Lab) (w : World) (hl : len ≤ 140737488355328) (hA : LAt w B len l) (hz : ∀ x ∈ l, x.1.length ≤ 4096 ∧ x.2.length ≤ 4096) :
    Calls Try.prog 15 #[.agg #[.int .i64 k, .string (str n), .string (str v), .slice none 0 0], .slice B len capB] w fun e w' => e = .returned (.bool (oneL (k, n, v, []) l)) ∧ Below w.heap.size w w' :=
  one_c (k, n, v, []) none 0 B len capB l w (by simp) (StrsAt.nil _ _) hl hA hz
theorem hasPre_nil (v : List UInt8) : Lib.hasPrefix v [] = true := by unfold Lib.hasPrefix; simp
theorem hasPre_self (v : List UInt8) : Lib.hasPrefix v v = true := by unfold Lib.hasPrefix; rw [List.isPrefixOf_iff_prefix]; exact List.prefix_refl v
theorem strs_one (w : World) (v : List UInt8) (g : Nat) (t : TypeId) (h : w.heap[g]? = some (.cells #[.string (str v)] t (0, 0))) (h1 : v.length ≤ 9223372036854775807) : StrsAt w (some ⟨g, 0, none⟩) 1 [v] := by
  refine ⟨rfl, fun i hi => ?_⟩
  obtain rfl : i = 0 := by simp at hi; omega
  exact ⟨h1, _, rfl, lt_of_block h, blk_cell h 0⟩
set_option maxHeartbeats 1000000 in
theorem law_MatchApart (a0 a1 : ByteArray) (a2 : Option Addr) (len2 cap2 : Nat) (z2 : List Lab) (w : World) (w0 : a0.size ≤ maxLen) (w1 : a1.size ≤ maxLen) (hl2 : len2 ≤ maxLen) (w2 : LAt w a2 len2 z2) :
    Calls Try.prog 4 #[.string a0, .string a1, .slice a2 len2 cap2] w fun e w' => e = .returned (.bool true) ∧ Below w.heap.size w w' := by
  obtain ⟨n, rfl⟩ := str_of a0
  obtain ⟨v, rfl⟩ := str_of a1
  rw [str_size] at w0 w1
  unfold maxLen at w0 w1 hl2
  by_cases hs : 1024 < (n.length : Int)
  · go_enter Try.func4, Try.ntmps4
    go_wp2
    go_ret
    exact ⟨rfl, Below.refl _ _⟩
  have td1 : decide (1024 < (n.length : Int)) = false := by simpa using hs
  by_cases hs2 : 1024 < (v.length : Int)
  · clear hs
    go_enter Try.func4, Try.ntmps4
    go_wp2
    go_ret
    exact ⟨rfl, Below.refl _ _⟩
  have td2 : decide (1024 < (v.length : Int)) = false := by simpa using hs2
  have ch := fun W h => large_c a2 len2 cap2 z2 W hl2 h
  cases hH : heavyL z2 with
  | true =>
    rw [hH] at ch
    clear hs hs2
    go_enter Try.func4, Try.ntmps4
    go_wp2_with (go_at_call 14; refine (ch _ w2).mono ?_; rintro e w1 ⟨rfl, hb1⟩; dsimp only)
    go_ret
    exact ⟨rfl, hb1⟩
  | false =>
    rw [hH] at ch
    obtain ⟨hs1, hz⟩ := large_small hH
    have hle := w2.1
    subst hle
    have hz' := Lib.hid hz
    have cg := fun W h => refGet_c a2 z2.length cap2 z2 n W (by omega) h hz
    have ca := fun W h => one0_c 0 n v a2 z2.length cap2 z2 W (by omega) h hz
    have cb := fun W h => one0_c 1 n v a2 z2.length cap2 z2 W (by omega) h hz
    have cc := fun W h => one0_c 2 n v a2 z2.length cap2 z2 W (by omega) h hz
    have cd := fun W A h' h => one_c (3, n, [], [v]) A 1 a2 z2.length cap2 z2 W (by simp) h' (by omega) h hz
    have ce := fun W h => one0_c 2 n [] a2 z2.length cap2 z2 W (by omega) h hz
    have cf := fun W h => one0_c 4 n v a2 z2.length cap2 z2 W (by omega) h hz
    have ea : oneL (0, n, v, []) z2 = (getL z2 n == v) := by simp [oneL]
    have eb : oneL (1, n, v, []) z2 = (getL z2 n != v) := by simp [oneL]
    have ec : oneL (2, n, v, []) z2 = Lib.hasPrefix (getL z2 n) v := by simp [oneL]
    have ed : oneL (3, n, [], [v]) z2 = (v == getL z2 n) := by simp [oneL]
    have ee : oneL (2, n, [], []) z2 = true := by simp [oneL, hasPre_nil]
    have ef : oneL (4, n, v, []) z2 = false := by simp [oneL]
    rw [ea] at ca
    rw [eb] at cb
    rw [ec] at cc
    rw [ed] at cd
    rw [ee] at ce
    rw [ef] at cf
    obtain ⟨G, hG⟩ : ∃ G, getL z2 n = G := ⟨_, rfl⟩
    rw [hG] at cg ca cb cc cd
    have hcp : G = v → Lib.hasPrefix G v = true := fun h => by rw [h]; exact hasPre_self v
    obtain ⟨P, hP⟩ : ∃ P, Lib.hasPrefix G v = P := ⟨_, rfl⟩
    rw [hP] at cc hcp
    have hv : v.length ≤ 1024 := by omega
    clear hs hs2 hz hP hG ea eb ec ed ee ef hH
    by_cases hGv : G = v
    · have hP1 := hcp hGv
      subst hP1 hGv
      have t1 : (G == G) = true := by simp
      have t2 : (G != G) = false := by simp
      rw [t1] at ca cd
      rw [t2] at cb
      clear hcp
      go_enter Try.func4, Try.ntmps4
      go_wp2_with (go_at_call 14; refine (ch _ w2).mono ?_; rintro e w1 ⟨rfl, hb1⟩; dsimp only)
      refine (ca _ (w2.below hb1)).mono ?_
      rintro e w3 ⟨rfl, hb3⟩
      have hb13 := below2 hb1 hb3 hb1.size
      go_wp2_with fail
      refine (cb _ (w2.below hb13)).mono ?_
      rintro e w4 ⟨rfl, hb4⟩
      have hb14 := below2 hb13 hb4 hb13.size
      go_wp2_with fail
      refine (cc _ (w2.below hb14)).mono ?_
      rintro e w5 ⟨rfl, hb5⟩
      have hb15 := below2 hb14 hb5 hb14.size
      have d := blk_new w5 (.cells #[.string (str G)] 9)
      have hb16 := hb15.alloc hb15.size (.cells #[.string (str G)] 9)
      have hst := strs_one _ G w5.heap.size _ d (by omega)
      have HST := Lib.hid hst
      go_wp2_with fail
      refine (cd _ _ HST.out (w2.below hb16)).mono ?_
      rintro e w6 ⟨rfl, hb6⟩
      have hb17 := below2 hb16 hb6 hb16.size
      go_wp2_with fail
      refine (ce _ (w2.below hb17)).mono ?_
      rintro e w7 ⟨rfl, hb7⟩
      have hb18 := below2 hb17 hb7 hb17.size
      go_wp2_with fail
      refine (cg _ (w2.below hb18)).mono ?_
      rintro e w8 ⟨rfl, rfl⟩
      go_wp2_with fail
      refine (cf _ (w2.below hb18)).mono ?_
      rintro e w9 ⟨rfl, hb9⟩
      have hb19 := below2 hb18 hb9 hb18.size
      go_wp2_with fail
      go_ret
      exact ⟨rfl, hb19⟩
    · have t1 : (G == v) = false := by rw [beq_eq_false_iff_ne]; exact hGv
      have t2 : (G != v) = true := by simp [hGv]
      have t3 : (v == G) = false := by rw [beq_eq_false_iff_ne]; exact fun h => hGv h.symm
      rw [t1] at ca
      rw [t2] at cb
      rw [t3] at cd
      clear hcp hGv
      go_enter Try.func4, Try.ntmps4
      go_wp2_with (go_at_call 14; refine (ch _ w2).mono ?_; rintro e w1 ⟨rfl, hb1⟩; dsimp only)
      refine (ca _ (w2.below hb1)).mono ?_
      rintro e w3 ⟨rfl, hb3⟩
      have hb13 := below2 hb1 hb3 hb1.size
      go_wp2_with fail
      refine (cb _ (w2.below hb13)).mono ?_
      rintro e w4 ⟨rfl, hb4⟩
      have hb14 := below2 hb13 hb4 hb13.size
      go_wp2_with fail
      refine (cc _ (w2.below hb14)).mono ?_
      rintro e w5 ⟨rfl, hb5⟩
      have hb15 := below2 hb14 hb5 hb14.size
      have d := blk_new w5 (.cells #[.string (str v)] 9)
      have hb16 := hb15.alloc hb15.size (.cells #[.string (str v)] 9)
      have hst := strs_one _ v w5.heap.size _ d (by omega)
      have HST := Lib.hid hst
      go_wp2_with fail
      refine (cd _ _ HST.out (w2.below hb16)).mono ?_
      rintro e w6 ⟨rfl, hb6⟩
      have hb17 := below2 hb16 hb6 hb16.size
      go_wp2_with fail
      refine (ce _ (w2.below hb17)).mono ?_
      rintro e w7 ⟨rfl, hb7⟩
      have hb18 := below2 hb17 hb7 hb17.size
      go_wp2_with fail
      refine (cg _ (w2.below hb18)).mono ?_
      rintro e w8 ⟨rfl, rfl⟩
      go_wp2_with fail
      refine (cf _ (w2.below hb18)).mono ?_
      rintro e w9 ⟨rfl, hb9⟩
      have hb19 := below2 hb18 hb9 hb18.size
      go_wp2_with fail
      go_ret
      exact ⟨rfl, hb19⟩
end Go.Proofs.Ytopnnhjfcfhihaa
