/-
  Layer 5 (match): what the document's One returns; it writes nothing that was there.
-/
import Derived.Test.YtopnnhjfcfhihaaDoorMatchMem
import Derived.Test.YtopnnhjfcfhihaaDoorLabelG
namespace Go.Proofs.YtopnnhjfcfhihaaDoor
open Go.RowKit Go.Deep
attribute [local go_sem] str_size str_append str_toList str_get str_extract
set_option linter.unusedVariables false
set_option linter.unusedSimpArgs false
theorem ret_b {a b : Bool} (h : a = b) : Ending.returned (.bool a) = .returned (.bool b) := by rw [h]
theorem pre_take (v p : List UInt8) : Lib.hasPrefix v p = (decide (p.length ≤ v.length) && (v.take p.length == p)) := by
  unfold Lib.hasPrefix
  rw [Bool.eq_iff_iff, List.isPrefixOf_iff_prefix, Bool.and_eq_true, decide_eq_true_eq, beq_iff_eq]
  constructor
  · intro h; exact ⟨h.length_le, (List.prefix_iff_eq_take.1 h).symm⟩
  · rintro ⟨_, h⟩; rw [List.prefix_iff_eq_take]; exact h.symm
set_option maxHeartbeats 1000000 in
theorem refOne_c (m : Mat) (A : Option Addr) (cap : Nat) (B : Option Addr) (len capB : Nat) (l : List Lab) (w : World) (hm : m.2.2.2.length ≤ 9223372036854775807) (hS : StrsAt w A m.2.2.2.length m.2.2.2)
    (hl : len ≤ 140737488355328) (hA : LAt w B len l) (hz : ∀ x ∈ l, x.1.length ≤ 4096 ∧ x.2.length ≤ 4096) :
    Calls Tryd.prog 11 #[.agg #[.int .i64 m.1, .string (str m.2.1), .string (str m.2.2.1), .slice A m.2.2.2.length cap], .slice B len capB] w fun e w' => e = .returned (.bool (oneL m l)) ∧ Below w.heap.size w w' := by
  have cg := fun W h => refGet_c B len capB l m.2.1 W hl h hz
  obtain ⟨R, hR⟩ : ∃ R, oneL m l = R := ⟨_, rfl⟩
  rw [hR]
  unfold oneL at hR
  obtain ⟨G, hG⟩ : ∃ G, getL l m.2.1 = G := ⟨_, rfl⟩
  rw [hG] at cg hR
  obtain ⟨k, n, v, s⟩ := m
  simp only at cg hm hS hR
  obtain ⟨ns, hns⟩ : ∃ ns, s.length = ns := ⟨_, rfl⟩
  simp only [hns]
  rw [hns] at hm hS
  have hba : Below w.heap.size w (w.alloc (.cells #[.int .i64 k, .string (str n), .string (str v), .slice A ns cap] 30)) := (Below.refl _ _).alloc (Nat.le_refl _) _
  have HS := Lib.hid (hS.below hba)
  have HL := Lib.hid (hA.below hba)
  have HN := Lib.hid hns
  clear hns hG hS
  by_cases h0 : k = 0
  · subst h0
    rw [if_pos rfl] at hR
    subst hR
    go_enter Tryd.func11, Tryd.ntmps11
    go_wp2_with (go_at_call 25; refine (cg _ HL.out).mono ?_; rintro e w1 ⟨rfl, rfl⟩; dsimp only)
    go_ret
    exact ⟨rfl, hba⟩
  rw [if_neg h0] at hR
  have t0 : (k == 0) = false := by simpa using h0
  by_cases h1 : k = 1
  · subst h1
    rw [if_pos rfl] at hR
    subst hR
    go_enter Tryd.func11, Tryd.ntmps11
    go_wp2_with (go_at_call 25; refine (cg _ HL.out).mono ?_; rintro e w1 ⟨rfl, rfl⟩; dsimp only)
    go_ret
    exact ⟨rfl, hba⟩
  rw [if_neg h1] at hR
  have t1 : (k == 1) = false := by simpa using h1
  by_cases h2 : k = 2
  · subst h2
    rw [if_pos rfl, pre_take] at hR
    clear h0 h1
    by_cases hle : v.length ≤ G.length
    · rw [decide_eq_true hle, Bool.true_and] at hR
      subst hR
      go_enter Tryd.func11, Tryd.ntmps11
      go_wp2_with (go_at_call 25; refine (cg _ HL.out).mono ?_; rintro e w1 ⟨rfl, rfl⟩; dsimp only)
      go_quiet (fail)
      go_wp2_with fail
      go_ret
      exact ⟨rfl, below_drewN hba _⟩
    · rw [decide_eq_false hle, Bool.false_and] at hR
      subst hR
      have td : decide ((v.length : Int) ≤ (G.length : Int)) = false := by simpa using hle
      go_enter Tryd.func11, Tryd.ntmps11
      go_wp2_with (go_at_call 25; refine (cg _ HL.out).mono ?_; rintro e w1 ⟨rfl, rfl⟩; dsimp only)
      go_quiet (fail)
      go_wp2_with fail
      go_ret
      exact ⟨rfl, below_drewN hba _⟩
  rw [if_neg h2] at hR
  have t2 : (k == 2) = false := by simpa using h2
  by_cases h3 : k = 3
  · subst h3
    rw [if_pos rfl] at hR
    have HR := Lib.hid hR
    clear h0 h1 h2 hR
    have d := blk_new w (.cells #[.int .i64 3, .string (str n), .string (str v), .slice A ns cap] 30)
    have d3 := blk_cell d 3
    simp only [List.getElem?_toArray, List.getElem?_cons_zero, List.getElem?_cons_succ] at d3
    go_enter Tryd.func11, Tryd.ntmps11
    go_wp2_with (go_at_call 25; refine (cg _ HL.out).mono ?_; rintro e w1 ⟨rfl, rfl⟩; dsimp only)
    go_loopw [6] (fun c wr => ∃ i : Nat, i ≤ ns ∧ c = .int .i64 i ∧ Hid ((s.drop i).any (fun x => x == G) = R) ∧ wr = w.alloc (.cells #[.int .i64 3, .string (str n), .string (str v), .slice A ns cap] 30)) (fun c _ => ns - (intOf c).toNat)
    case atStart => exact ⟨0, Nat.zero_le _, rfl, HR.out, rfl⟩
    case round =>
      obtain ⟨i, hi, rfl, HI, rfl⟩ := hrel
      by_cases hlt : i < ns
      · have hls : i < s.length := by have := HN.out; omega
        obtain ⟨h1, ad, rfl, h2, h3⟩ := HS.out.2 i hls
        have hst := drop_any (fun x => x == G) s i hls
        rw [HI.out] at hst
        cases hq : (s[i] == G) with
        | true =>
          have e : R = true := by rw [hst, hq]; rfl
          subst e
          clear hst
          go_wp2_with fail
          go_ret
          exact ⟨rfl, hba⟩
        | false =>
          have e2 : (s.drop (i + 1)).any (fun x => x == G) = R := by rw [hst, hq]; rfl
          have HE := Lib.hid e2
          clear hst e2
          go_wp2_with fail
          go_roundw
          case rel => exact ⟨i + 1, by omega, by go_num, HE.out, by first | rfl | trivial⟩
          case measure => simp [intOf]; omega
      · obtain rfl : i = ns := by omega
        have e := HI.out
        rw [← HN.out, List.drop_length] at e
        have e2 : R = false := e.symm
        subst e2
        clear e
        go_wp2_with fail
        go_ret
        exact ⟨rfl, hba⟩
  rw [if_neg h3] at hR
  have t3 : (k == 3) = false := by simpa using h3
  subst hR
  clear h0 h1 h2 h3
  go_enter Tryd.func11, Tryd.ntmps11
  go_wp2_with (go_at_call 25; refine (cg _ HL.out).mono ?_; rintro e w1 ⟨rfl, rfl⟩; dsimp only)
  go_ret
  exact ⟨rfl, hba⟩
end Go.Proofs.YtopnnhjfcfhihaaDoor
