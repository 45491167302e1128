/-
  Layer 5 (match): the law MatchSets returns true.
-/
import Derived.Test.YtopnnhjfcfhihaaMatchLawsA
namespace Go.Proofs.Ytopnnhjfcfhihaa
open Go.RowKit Go.Deep
attribute [local go_sem] str_size str_append str_toList str_get str_extract
set_option linter.unusedVariables false
set_option linter.unusedSimpArgs false
theorem ms_two (w : World) (n : List UInt8) (S : Option Addr) (ns cap : Nat) (s : List (List UInt8)) (g : Nat) (h : w.heap[g]? = some (.cells #[.int .i64 3, .string (str n), .string (str []), .slice S ns cap, .int .i64 2, .string (str n), .string (str []), .slice none 0 0] 32 (0, 0)))
    (h1 : n.length ≤ 4096) (hs : ns ≤ 9223372036854775807) (hS : StrsAt w S ns s) : MsAt w (some ⟨g, 0, none⟩) 2 [(3, n, [], s), (2, n, [], [])] := by
  have hle := hS.1
  subst hle
  refine ⟨rfl, fun i hi => ?_⟩
  match i, hi with
  | 0, _ => exact ⟨⟨by simp; omega, by simp, hs, by simp, by simp⟩, _, rfl, lt_of_block h, blk_cell h 0, blk_cell h 1, blk_cell h 2, S, cap, blk_cell h 3, hS⟩
  | 1, _ => exact ⟨⟨by simp; omega, by simp, by simp, by simp, by simp⟩, _, rfl, lt_of_block h, blk_cell h 4, blk_cell h 5, blk_cell h 6, none, 0, blk_cell h 7, StrsAt.nil _ _⟩
set_option maxHeartbeats 1000000 in
theorem law_MatchSets (a0 : ByteArray) (a1 : Option Addr) (len1 cap1 : Nat) (z1 : List (List UInt8)) (a2 : Option Addr) (len2 cap2 : Nat) (z2 : List Lab) (w : World) (w0 : a0.size ≤ maxLen) (hl1 : len1 ≤ maxLen) (w1 : StrsAt w a1 len1 z1) (hl2 : len2 ≤ maxLen) (w2 : LAt w a2 len2 z2) :
    Calls Try.prog 5 #[.string a0, .slice a1 len1 cap1, .slice a2 len2 cap2] w fun e w' => e = .returned (.bool true) ∧ Below w.heap.size w w' := by
  obtain ⟨n, rfl⟩ := str_of a0
  have hle1 := w1.1
  subst hle1
  rw [str_size] at w0
  unfold maxLen at w0 hl1 hl2
  by_cases hs : 1024 < (n.length : Int)
  · go_enter Try.func5, Try.ntmps5
    go_wp2
    go_ret
    exact ⟨rfl, Below.refl _ _⟩
  have td1 : decide (1024 < (n.length : Int)) = false := by simpa using hs
  by_cases hs2 : 20 < (z1.length : Int)
  · clear hs
    go_enter Try.func5, Try.ntmps5
    go_wp2
    go_ret
    exact ⟨rfl, Below.refl _ _⟩
  have td2 : decide (20 < (z1.length : Int)) = false := by simpa using hs2
  have ch := fun W h => large_c a2 len2 cap2 z2 W hl2 h
  cases hH : heavyL z2 with
  | true =>
    rw [hH] at ch
    clear hs hs2
    go_enter Try.func5, Try.ntmps5
    go_wp2_with (go_at_call 14; refine (ch _ w2).mono ?_; rintro e w1 ⟨rfl, hb1⟩; dsimp only)
    go_ret
    exact ⟨rfl, hb1⟩
  | false =>
    rw [hH] at ch
    obtain ⟨hs1, hz⟩ := large_small hH
    have hle := w2.1
    subst hle
    have hn4 : n.length ≤ 4096 := by omega
    have c0 := fun v W h => one0_c 0 n v a2 z2.length cap2 z2 W (by omega) h hz
    have c3 := fun W h' h => one_c (3, n, [], z1) a1 cap1 a2 z2.length cap2 z2 W (by show z1.length ≤ _; omega) h' (by omega) h hz
    have cA := fun W A h' h => all_c A 2 2 [(3, n, [], z1), (2, n, [], [])] a2 z2.length cap2 z2 W (by omega) h' (by omega) h hz
    have cN := fun W h => all_c none 0 0 [] a2 z2.length cap2 z2 W (by omega) (MsAt.nil _ _) (by omega) h hz
    have e0 : ∀ v, oneL (0, n, v, []) z2 = (v == getL z2 n) := fun v => by simp [oneL]; rw [Bool.eq_iff_iff]; simp; exact eq_comm
    have e3 : oneL (3, n, [], z1) z2 = z1.any (fun x => x == getL z2 n) := by simp [oneL]
    have eA : allL [(3, n, [], z1), (2, n, [], [])] z2 = z1.any (fun x => x == getL z2 n) := by simp [allL, oneL, hasPre_nil]
    have eN : allL [] z2 = true := rfl
    simp only [e0] at c0
    rw [e3] at c3
    rw [eA] at cA
    rw [eN] at cN
    obtain ⟨G, hG⟩ : ∃ G, getL z2 n = G := ⟨_, rfl⟩
    rw [hG] at c0 c3 cA
    obtain ⟨R, hR⟩ : ∃ R, z1.any (fun x => x == G) = R := ⟨_, rfl⟩
    rw [hR] at c3 cA
    have HR := Lib.hid hR
    have hl20 : z1.length ≤ 20 := by omega
    clear hs hs2 hz hH e0 e3 eA eN hG hR
    go_enter Try.func5, Try.ntmps5
    go_wp2_with (go_at_call 14; refine (ch _ w2).mono ?_; rintro e w1 ⟨rfl, hb1⟩; dsimp only)
    obtain ⟨wo, rfl⟩ : ∃ wo : World, wo = w1 := ⟨_, rfl⟩
    go_loopw [7, 8] (fun d c wr => ∃ (i : Nat) (b : Bool), i ≤ z1.length ∧ c = .int .i64 i ∧ d = .bool b ∧ Hid (b = (z1.take i).any (fun x => x == G)) ∧ Below w.heap.size w wr) (fun _ c _ => z1.length - (intOf c).toNat)
    case atStart => exact ⟨0, false, Nat.zero_le _, rfl, rfl, rfl, hb1⟩
    case round =>
      obtain ⟨i, b, hi, rfl, rfl, HB, hb⟩ := hrel
      have hsz := hb.size
      by_cases hlt : i < z1.length
      · obtain ⟨r1, ad, rfl, h2, h3⟩ := (w1.below hb).2 i hlt
        have hst := any_take (fun x => x == G) z1 i hlt
        have c00 := c0 (z1[i]'hlt)
        obtain ⟨x, hx⟩ : ∃ x, z1[i]'hlt = x := ⟨_, rfl⟩
        rw [hx] at h3 hst c00 r1
        clear hx
        by_cases hxl : 1024 < (x.length : Int)
        · clear hst
          go_wp2_with fail
          go_ret
          exact ⟨rfl, hb⟩
        · have tdx : decide (1024 < (x.length : Int)) = false := by simpa using hxl
          cases b with
          | true =>
            have HE : Hid (true = (z1.take (i + 1)).any (fun x => x == G)) := by show _ = _; rw [hst, ← HB.out]; rfl
            clear hst hxl
            go_wp2_with fail
            go_roundw
            case rel => exact ⟨i + 1, true, by omega, by go_num, rfl, HE.out, hb⟩
            case measure => simp [intOf]; omega
          | false =>
            have HE : Hid ((x == G) = (z1.take (i + 1)).any (fun x => x == G)) := by show _ = _; rw [hst, ← HB.out]; rfl
            clear hst hxl
            go_wp2_with (go_at_call 15; refine (c00 _ (w2.below hb)).mono ?_; rintro e w3 ⟨rfl, hb3⟩; have hb4 := below2 hb hb3 hsz; dsimp only)
            go_roundw
            case rel => exact ⟨i + 1, (x == G), by omega, by go_num, rfl, HE.out, hb4⟩
            case measure => simp [intOf]; omega
      · obtain rfl : i = z1.length := by omega
        have e := HB.out
        rw [List.take_length, HR.out] at e
        subst e
        go_wp2_with (go_at_call 15; refine (c3 _ (w1.below hb) (w2.below hb)).mono ?_; rintro e w3 ⟨rfl, hb3⟩; have hb4 := below2 hb hb3 hsz; dsimp only)
        have d := blk_new w3 (.cells #[.int .i64 3, .string (str n), .string (str []), .slice a1 z1.length cap1, .int .i64 2, .string (str n), .string (str []), .slice none 0 0] 32)
        have hb5 := hb4.alloc hb4.size (.cells #[.int .i64 3, .string (str n), .string (str []), .slice a1 z1.length cap1, .int .i64 2, .string (str n), .string (str []), .slice none 0 0] 32)
        have hM := ms_two _ n a1 z1.length cap1 z1 w3.heap.size d hn4 hl1 (w1.below hb5)
        refine (cA _ _ hM (w2.below hb5)).mono ?_
        rintro e w4 ⟨rfl, hb6⟩
        have hb7 := below2 hb5 hb6 hb5.size
        clear d hM
        cases b
        all_goals
          go_wp2_with fail
          refine (cN _ (w2.below hb7)).mono ?_
          rintro e w5 ⟨rfl, hb8⟩
          have hb9 := below2 hb7 hb8 hb7.size
          go_wp2_with fail
          go_ret
          exact ⟨rfl, hb9⟩
end Go.Proofs.Ytopnnhjfcfhihaa
