/-
  Layer 5 (match): the law MatchBegins returns true.
-/
import Derived.Test.YtopnnhjfcfhihaaMatchLawsA
namespace Go.Proofs.Ytopnnhjfcfhihaa
open Go.RowKit Go.Deep
attribute [local go_sem] str_size str_append str_toList str_get str_extract
set_option linter.unusedVariables false
set_option linter.unusedSimpArgs false
theorem ref1_c (k : Int) (n v : List UInt8) (B : Option Addr) (len capB : Nat) (l : List Lab) (w : World) (hl : len ≤ 140737488355328) (hA : LAt w B len l) (hz : ∀ x ∈ l, x.1.length ≤ 4096 ∧ x.2.length ≤ 4096) :
    Calls Try.prog 17 #[.agg #[.int .i64 k, .string (str n), .string (str v), .slice none 0 0], .slice B len capB] w fun e w' => e = .returned (.bool (oneL (k, n, v, []) l)) ∧ Below w.heap.size w w' :=
  refOne_c (k, n, v, []) none 0 B len capB l w (by simp) (StrsAt.nil _ _) hl hA hz
theorem pre_app {G a b : List UInt8} (h : Lib.hasPrefix G (a ++ b) = true) : Lib.hasPrefix G a = true := by
  unfold Lib.hasPrefix at *
  rw [List.isPrefixOf_iff_prefix] at *
  exact (List.prefix_append a b).trans h
set_option maxHeartbeats 1000000 in
theorem law_MatchBegins (a0 a1 a2 : ByteArray) (a3 : Option Addr) (len3 cap3 : Nat) (z3 : List Lab) (w : World) (w0 : a0.size ≤ maxLen) (w1 : a1.size ≤ maxLen) (w2 : a2.size ≤ maxLen) (hl3 : len3 ≤ maxLen) (w3 : LAt w a3 len3 z3) :
    Calls Try.prog 6 #[.string a0, .string a1, .string a2, .slice a3 len3 cap3] w fun e w' => e = .returned (.bool true) ∧ Below w.heap.size w w' := by
  obtain ⟨n, rfl⟩ := str_of a0
  obtain ⟨a, rfl⟩ := str_of a1
  obtain ⟨b, rfl⟩ := str_of a2
  rw [str_size] at w0 w1 w2
  unfold maxLen at w0 w1 w2 hl3
  by_cases hsn : 1024 < (n.length : Int)
  · skip
    go_enter Try.func6, Try.ntmps6
    go_wp2
    go_ret
    exact ⟨rfl, Below.refl _ _⟩
  have tdn : decide (1024 < (n.length : Int)) = false := by simpa using hsn
  by_cases hsa : 1024 < (a.length : Int)
  · clear hsn
    go_enter Try.func6, Try.ntmps6
    go_wp2
    go_ret
    exact ⟨rfl, Below.refl _ _⟩
  have tda : decide (1024 < (a.length : Int)) = false := by simpa using hsa
  by_cases hsb : 1024 < (b.length : Int)
  · clear hsn hsa
    go_enter Try.func6, Try.ntmps6
    go_wp2
    go_ret
    exact ⟨rfl, Below.refl _ _⟩
  have tdb : decide (1024 < (b.length : Int)) = false := by simpa using hsb
  have ch := fun W h => large_c a3 len3 cap3 z3 W hl3 h
  cases hH : heavyL z3 with
  | true =>
    rw [hH] at ch
    clear hsn hsa hsb
    go_enter Try.func6, Try.ntmps6
    go_wp2_with (go_at_call 14; refine (ch _ w3).mono ?_; rintro e w1 ⟨rfl, hb1⟩; dsimp only)
    go_ret
    exact ⟨rfl, hb1⟩
  | false =>
    rw [hH] at ch
    obtain ⟨hs1, hz⟩ := large_small hH
    have hle := w3.1
    subst hle
    have ca := fun W h => one0_c 2 n (a ++ b) a3 z3.length cap3 z3 W (by omega) h hz
    have cb := fun W h => one0_c 2 n a a3 z3.length cap3 z3 W (by omega) h hz
    have cc := fun W h => one0_c 0 n (a ++ b) a3 z3.length cap3 z3 W (by omega) h hz
    have cd := fun W h => one0_c 2 n [] a3 z3.length cap3 z3 W (by omega) h hz
    have ce := fun W h => ref1_c 2 n (a ++ b) a3 z3.length cap3 z3 W (by omega) h hz
    have ea : oneL (2, n, a ++ b, []) z3 = Lib.hasPrefix (getL z3 n) (a ++ b) := by simp [oneL]
    have eb : oneL (2, n, a, []) z3 = Lib.hasPrefix (getL z3 n) a := by simp [oneL]
    have ec : oneL (0, n, a ++ b, []) z3 = (getL z3 n == a ++ b) := by simp [oneL]
    have ed : oneL (2, n, [], []) z3 = true := by simp [oneL, hasPre_nil]
    rw [ea] at ca ce
    rw [eb] at cb
    rw [ec] at cc
    rw [ed] at cd
    obtain ⟨G, hG⟩ : ∃ G, getL z3 n = G := ⟨_, rfl⟩
    rw [hG] at ca cb cc ce
    have h1 := fun h => pre_app (G := G) (a := a) (b := b) h
    have h2 : (G == a ++ b) = true → Lib.hasPrefix G (a ++ b) = true := fun h => by rw [beq_iff_eq] at h; rw [← h]; exact hasPre_self G
    obtain ⟨X, hX⟩ : ∃ X, Lib.hasPrefix G (a ++ b) = X := ⟨_, rfl⟩
    obtain ⟨Y, hY⟩ : ∃ Y, Lib.hasPrefix G a = Y := ⟨_, rfl⟩
    obtain ⟨Z, hZ⟩ : ∃ Z, (G == a ++ b) = Z := ⟨_, rfl⟩
    rw [hX] at ca ce h1 h2
    rw [hY] at cb h1
    rw [hZ] at cc h2
    have k1 : ¬ (9223372036854775807 < a.length + b.length) := by omega
    have hxyz : (!X || Y) = true ∧ (!Z || X) = true := by cases X <;> cases Y <;> cases Z <;> simp_all
    have hab : str a ++ str b = str (a ++ b) := str_append a b
    clear hsn hsa hsb hz hX hY hZ hG ea eb ec ed hH h1 h2
    go_enter Try.func6, Try.ntmps6
    go_wp2_with (go_at_call 14; refine (ch _ w3).mono ?_; rintro e w1 ⟨rfl, hb1⟩; dsimp only)
    refine (ca _ (w3.below hb1)).mono ?_
    rintro e w4 ⟨rfl, hb4⟩
    have hb14 := below2 hb1 hb4 hb1.size
    go_wp2_with fail
    refine (cb _ (w3.below hb14)).mono ?_
    rintro e w5 ⟨rfl, hb5⟩
    have hb15 := below2 hb14 hb5 hb14.size
    go_wp2_with fail
    refine (cc _ (w3.below hb15)).mono ?_
    rintro e w6 ⟨rfl, hb6⟩
    have hb16 := below2 hb15 hb6 hb15.size
    obtain ⟨hx1, hx2⟩ := hxyz
    cases X <;> cases Y <;> cases Z <;> first | exact absurd hx1 (by decide) | exact absurd hx2 (by decide) | skip
    all_goals
      clear hx1 hx2
      go_wp2_with fail
      refine (cd _ (w3.below hb16)).mono ?_
      rintro e w7 ⟨rfl, hb7⟩
      have hb17 := below2 hb16 hb7 hb16.size
      go_wp2_with fail
      refine (ce _ (w3.below hb17)).mono ?_
      rintro e w8 ⟨rfl, hb8⟩
      have hb18 := below2 hb17 hb8 hb17.size
      go_wp2_with fail
      go_ret
      exact ⟨rfl, hb18⟩
end Go.Proofs.Ytopnnhjfcfhihaa
