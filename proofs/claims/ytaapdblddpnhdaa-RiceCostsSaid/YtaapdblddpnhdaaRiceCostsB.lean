/-
  Layer 2 (rice): RiceCosts: the document's own answer, and the law.
-/
import Derived.Test.YtaapdblddpnhdaaRiceCosts
namespace Go.Proofs.Ytaapdblddpnhdaa
open Go.RowKit Go.Deep
attribute [local go_sem] str_size str_append str_toList str_get str_extract
set_option linter.unusedVariables false
set_option linter.unusedSimpArgs false

theorem refCost_c (A : Option Addr) (len cap : Nat) (xs : List Nat) (k : Int) (w : World) (hl : xs.length ≤ 100) (hU : UAt w A len xs) :
    Calls Try.prog 32 #[.slice A len cap, .int .i64 k] w fun e w' => e = .returned (.int .i64 (costF xs k)) ∧ Below w.heap.size w w' := by
  by_cases h0 : k < 0 ∨ 40 < k
  · have he : costF xs k = 0 := by unfold costF; rw [if_pos h0]
    rw [he]
    clear he
    rcases h0 with h0 | h0
    all_goals
      go_enter Try.func32, Try.ntmps32
      go_wp2_with fail
      go_ret
      exact ⟨rfl, Below.refl _ _⟩
  · obtain ⟨k, rfl⟩ : ∃ m : Nat, k = m := ⟨k.toNat, by omega⟩
    rw [costF_ok xs k (by omega)]
    have hb1 : decide ((k : Int) < 0) = false := by simp
    have hb2 : decide (40 < (k : Int)) = false := by simp; omega
    have hlen := hU.1
    have hll : len ≤ 100 := by omega
    go_enter Try.func32, Try.ntmps32
    go_wp2_with fail
    go_loopw [5, 6] (fun s c wr => ∃ i : Nat, i ≤ len ∧ c = .int .i64 i ∧ s = .int .i64 (costN (xs.take i) k) ∧ Below w.heap.size w wr) (fun _ c _ => len - (intOf c).toNat)
    case atStart => exact ⟨0, Nat.zero_le _, rfl, by simp [costN], Below.refl _ _⟩
    case round =>
      obtain ⟨i, hi, rfl, rfl, hb⟩ := hrel
      by_cases hlt : i < len
      · obtain ⟨hn, ad, rfl, hadl, hcell⟩ := (hU.below hb).2 i (by omega)
        have hadd := costN_take xs k i (by omega)
        have hle := costN_le (xs.take i) k (by omega)
        have hcl := code_le (xs[i]'(by omega)) k (by omega)
        have hti : (xs.take i).length ≤ 100 := by rw [List.length_take]; omega
        obtain ⟨x, hx⟩ : ∃ x, xs[i]'(by omega) = x := ⟨_, rfl⟩
        rw [hx] at hn hcell hadd hcl
        obtain ⟨c0, hc0⟩ : ∃ c, costN (xs.take i) k = c := ⟨_, rfl⟩
        obtain ⟨c1, hc1⟩ : ∃ c, (code x k).length = c := ⟨_, rfl⟩
        rw [hc0] at hadd hle ⊢
        rw [hc1] at hadd hcl
        have HA := Lib.hid hadd
        have HC1 := Lib.hid hc1
        have hc0l : c0 ≤ 8800 := by omega
        have hsz := hb.size
        clear hadd hle hc0 hc1 hx hlen
        go_wp2_with fail
        refine (code_c x k _ (by omega) hn).mono ?_
        rintro e w1 ⟨⟨v1, rfl, ⟨g1, cap1, rfl⟩, hown1⟩, hb1⟩
        rw [HC1.out]
        clear hown1
        have hb2 := below2 hb hb1 hsz
        go_wp2_with fail
        go_roundw
        case rel => exact ⟨i + 1, by omega, by go_num, by rw [HA.out]; go_num, hb2⟩
        case measure => simp [intOf]; omega
      · have hix : i = xs.length := by omega
        have hil : i = len := by omega
        subst hil
        have ht : xs.take i = xs := by rw [hix, List.take_length]
        rw [ht]
        clear ht hix hlen
        go_wp2_with fail
        go_ret
        exact ⟨rfl, hb⟩
theorem refBest_c (A : Option Addr) (len cap : Nat) (xs : List Nat) (w : World) (hl : xs.length ≤ 100) (hU : UAt w A len xs) :
    Calls Try.prog 33 #[.slice A len cap] w fun e w' => e = .returned (.int .i64 (bestTo xs 40)) ∧ Below w.heap.size w w' := by
  go_enter Try.func33, Try.ntmps33
  go_wp2_with fail
  go_loopw [3, 4] (fun b c wr => ∃ k : Nat, 1 ≤ k ∧ k ≤ 41 ∧ c = .int .i64 k ∧ b = .int .i64 (bestTo xs (k - 1)) ∧ Below w.heap.size w wr) (fun _ c _ => 41 - (intOf c).toNat)
  case atStart => exact ⟨1, by omega, by omega, rfl, rfl, Below.refl _ _⟩
  case round =>
    obtain ⟨k, hk1, hk41, rfl, rfl, hb⟩ := hrel
    by_cases hlt : k ≤ 40
    · obtain ⟨m, rfl⟩ : ∃ m, k = m + 1 := ⟨k - 1, by omega⟩
      rw [Nat.add_sub_cancel]
      have hbl := bestTo_le xs m
      have hst : bestTo xs (m + 1) = if costN xs (m + 1) < costN xs (bestTo xs m) then m + 1 else bestTo xs m := rfl
      have hU1 := hU.below hb
      have h1 := refCost_c A len cap xs ((m + 1 : Nat) : Int) wr hl hU1
      rw [costF_ok xs _ (by omega)] at h1
      have h2 := fun (W : World) (h : UAt W A len xs) => refCost_c A len cap xs ((bestTo xs m : Nat) : Int) W hl h
      rw [costF_ok xs _ (by omega)] at h2
      obtain ⟨c, hc⟩ : ∃ c, costN xs (m + 1) = c := ⟨_, rfl⟩
      obtain ⟨b, hbe⟩ : ∃ b, bestTo xs m = b := ⟨_, rfl⟩
      obtain ⟨l, hle⟩ : ∃ l, costN xs b = l := ⟨_, rfl⟩
      rw [hbe, hle, hc] at hst
      rw [hc] at h1
      rw [hbe, hle] at h2
      rw [hbe]
      have H1 := Lib.hid h1
      have H2 : Hid (∀ (W : World) (h : UAt W A len xs), _) := h2
      have hsz := hb.size
      by_cases hcl : c < l
      case' pos =>
        rw [if_pos hcl] at hst
        have HS := Lib.hid hst
      case' neg =>
        rw [if_neg hcl] at hst
        have HS := Lib.hid hst
        have hge : ¬ ((c : Int) < (l : Int)) := by omega
      all_goals
        clear hst h1 h2 hc hbe hle hbl
        go_wp2_with fail
        refine H1.out.mono ?_
        rintro e w1 ⟨rfl, hb1⟩
        go_wp2_with fail
        refine (H2.out w1 (hU1.below hb1)).mono ?_
        rintro e w2 ⟨rfl, hb2⟩
        have hb3 := below2 (below2 hb hb1 hsz) hb2 (Nat.le_trans hsz hb1.size)
        go_wp2_with fail
        go_roundw
        case rel => exact ⟨m + 2, by omega, by omega, by go_num, by rw [show m + 2 - 1 = m + 1 by omega, HS.out] <;> go_num, hb3⟩
        case measure => simp [intOf]; omega
    · obtain rfl : k = 41 := by omega
      go_wp2_with fail
      go_ret
      exact ⟨rfl, hb⟩
theorem uAt_of {w : World} {a0 : Option Addr} {len0 cap0 : Nat} {z0 : List Int} (h : (a0 = none ∧ len0 = 0 ∧ cap0 = 0 ∧ z0 = []) ∨
    ∃ x, a0 = some x ∧ len0 ≤ cap0 ∧ cap0 ≤ maxLen ∧ z0.length = cap0 ∧ (∀ i, i < z0.length → w.cell? (x.add i) = some (.int .u64 (z0.getD i 0))) ∧ ∀ n ∈ z0, (Lit.int .u64 n).wf = true) :
    UAt w a0 len0 ((z0.take len0).map Int.toNat) ∧ len0 ≤ maxLen := by
  rcases h with ⟨rfl, rfl, rfl, rfl⟩ | ⟨x, rfl, h1, h2, h3, h4, h5⟩
  · exact ⟨⟨rfl, fun i hi => by simp at hi⟩, Nat.zero_le _⟩
  · refine ⟨⟨by simp; omega, fun i hi => ?_⟩, by omega⟩
    have hi1 : i < len0 := by simp at hi; omega
    have hi2 : i < z0.length := by omega
    obtain ⟨b1, b2⟩ := bounds_u64 (h5 z0[i] (List.getElem_mem hi2))
    have hc := h4 i hi2
    have hg : z0.getD i 0 = z0[i] := by rw [List.getD_eq_getElem?_getD, List.getElem?_eq_getElem hi2]; rfl
    rw [hg] at hc
    have hb := World.block_lt_of_cell? w _ hc
    have e : (x.add i).block = x.block := by unfold Addr.add; split <;> rfl
    rw [e] at hb
    have hv : ((z0.take len0).map Int.toNat)[i] = z0[i].toNat := by simp
    rw [hv]
    refine ⟨by omega, x, rfl, hb, ?_⟩
    rw [hc]; congr 2; omega
set_option maxRecDepth 100000 in
theorem law_RiceCosts (a0 : Option Addr) (len0 cap0 : Nat) (z0 : List Int) (a1 : Int) (w : World) (w0 : (a0 = none ∧ len0 = 0 ∧ cap0 = 0 ∧ z0 = []) ∨
    ∃ x, a0 = some x ∧ len0 ≤ cap0 ∧ cap0 ≤ maxLen ∧ z0.length = cap0 ∧ (∀ i, i < z0.length → w.cell? (x.add i) = some (.int .u64 (z0.getD i 0))) ∧ ∀ n ∈ z0, (Lit.int .u64 n).wf = true)
    (w1 : (Lit.int .i64 a1).wf = true) :
    Calls Try.prog 6 #[.slice a0 len0 cap0, .int .i64 a1] w fun e w' => e = .returned (.bool true) ∧ Below w.heap.size w w' := by
  obtain ⟨hU, hml⟩ := uAt_of w0
  obtain ⟨h1, h2⟩ := bounds_i64 w1
  clear w0 w1
  generalize (z0.take len0).map Int.toNat = xs at hU
  unfold maxLen at hml
  by_cases h100 : 100 < (len0 : Int)
  · go_enter Try.func6, Try.ntmps6
    go_wp2
    go_ret
    exact ⟨rfl, Below.refl _ _⟩
  · have hx : xs.length ≤ 100 := by have := hU.1; omega
    have hbl := bestTo_le xs 40
    have hbest := bestTo_least xs 40
    have hcb := fun (W : World) (h : UAt W a0 len0 xs) => cost_c a0 len0 cap0 xs ((bestTo xs 40 : Nat) : Int) W hx h
    rw [costF_ok xs _ hbl] at hcb
    have hb1 := best_c a0 len0 cap0 xs w hx hU
    have hb2 := fun (W : World) (h : UAt W a0 len0 xs) => refBest_c a0 len0 cap0 xs W hx h
    obtain ⟨b, hb⟩ : ∃ b, bestTo xs 40 = b := ⟨_, rfl⟩
    rw [hb] at hbl hbest hcb hb1 hb2
    obtain ⟨l, hl⟩ : ∃ l, costN xs b = l := ⟨_, rfl⟩
    rw [hl] at hbest hcb
    have HB1 := Lib.hid hb1
    have HB2 : Hid (∀ (W : World) (h : UAt W a0 len0 xs), _) := hb2
    have HCB : Hid (∀ (W : World) (h : UAt W a0 len0 xs), _) := hcb
    have HBE : Hid (∀ i, i ≤ 40 → l ≤ costN xs i ∧ (i < b → l < costN xs i)) := hbest
    have hone : ((code 1000 10).length : Int) = 11 := by rw [code_length]; decide
    have hcone : costF [1000] (10 : Int) = 11 := by
      rw [show (10 : Int) = ((10 : Nat) : Int) from rfl, costF_ok _ _ (by omega)]
      unfold costN
      simp only [List.map_cons, List.map_nil, List.sum_cons, List.sum_nil]
      omega
    have HO := Lib.hid hcone
    clear hb hl hb1 hb2 hcb hbest hone hcone
    go_enter Try.func6, Try.ntmps6
    go_wp2_with fail
    refine HB1.out.mono ?_
    rintro e wa ⟨rfl, hba⟩
    have hUa := hU.below hba
    go_wp2_with fail
    refine (cost_c a0 len0 cap0 xs a1 _ hx hUa).mono ?_
    rintro e wb ⟨rfl, hbb⟩
    have hUb := hUa.below hbb
    go_wp2_with fail
    refine (refCost_c a0 len0 cap0 xs a1 _ hx hUb).mono ?_
    rintro e wc ⟨rfl, hbc⟩
    have hUc := hUb.below hbc
    go_wp2_with fail
    refine (HB2.out _ hUc).mono ?_
    rintro e wd ⟨rfl, hbd⟩
    have k1 := below2 hba hbb hba.size
    have k2 := below2 k1 hbc k1.size
    have k3 := below2 k2 hbd k2.size
    go_wp2_with fail
    go_loopw [6] (fun c wr => ∃ i : Nat, i ≤ 41 ∧ c = .int .i64 i ∧ Below w.heap.size w wr) (fun c _ => 41 - (intOf c).toNat)
    case atStart => exact ⟨0, by omega, rfl, k3⟩
    case round =>
      obtain ⟨i, hi, rfl, hbr⟩ := hrel
      have hUr := hU.below hbr
      by_cases hlt : i ≤ 40
      · have hci := cost_c a0 len0 cap0 xs (i : Int) wr hx hUr
        rw [costF_ok xs _ hlt] at hci
        obtain ⟨g1, g2⟩ := HBE.out i hlt
        obtain ⟨c, hc⟩ : ∃ c, costN xs i = c := ⟨_, rfl⟩
        rw [hc] at hci g1 g2
        have HCI := Lib.hid hci
        have hsz := hbr.size
        have hnl : ¬ ((c : Int) < (l : Int)) := by omega
        by_cases hib : i < b
        · have hne : ((c : Int) == (l : Int)) = false := by have := g2 hib; simp; omega
          have hib' : (i : Int) < (b : Int) := by omega
          clear hci g1 g2 hc
          go_wp2_with fail
          refine HCI.out.mono ?_
          rintro e w2 ⟨rfl, hb2⟩
          have hU2 := hUr.below hb2
          go_wp2_with fail
          refine (HCB.out _ hU2).mono ?_
          rintro e w3 ⟨rfl, hb3⟩
          have hU3 := hU2.below hb3
          go_wp2_with fail
          refine (HCB.out _ hU3).mono ?_
          rintro e w4 ⟨rfl, hb4⟩
          have j1 := below2 hbr hb2 hsz
          have j2 := below2 j1 hb3 j1.size
          have j3 := below2 j2 hb4 j2.size
          go_wp2_with fail
          go_roundw
          case rel => exact ⟨i + 1, by omega, by go_num, j3⟩
          case measure => simp [intOf]; omega
        · have hib' : ¬ ((i : Int) < (b : Int)) := by omega
          clear hci g1 g2 hc
          go_wp2_with fail
          refine HCI.out.mono ?_
          rintro e w2 ⟨rfl, hb2⟩
          have hU2 := hUr.below hb2
          go_wp2_with fail
          refine (HCB.out _ hU2).mono ?_
          rintro e w3 ⟨rfl, hb3⟩
          have j1 := below2 hbr hb2 hsz
          have j2 := below2 j1 hb3 j1.size
          go_wp2_with fail
          go_roundw
          case rel => exact ⟨i + 1, by omega, by go_num, j2⟩
          case measure => simp [intOf]; omega
      · obtain rfl : i = 41 := by omega
        have hb0 : Below w.heap.size w (wr.alloc (.cells #[.int .u64 1000] 27)) := hbr.alloc hbr.size _
        have hU0 : UAt (wr.alloc (.cells #[.int .u64 1000] 27)) (some ⟨wr.heap.size, 0, none⟩) 1 [1000] := by
          refine ⟨rfl, fun i hi => ?_⟩
          have : i = 0 := by simp at hi; omega
          subst this
          exact ⟨by simp, _, rfl, by simp, by simp [Addr.add]⟩
        have e1 := best_c (some ⟨wr.heap.size, 0, none⟩) 1 1 [1000] _ (by simp) hU0
        have e2 := fun (W : World) (h : UAt W (some ⟨wr.heap.size, 0, none⟩) 1 [1000]) => refBest_c (some ⟨wr.heap.size, 0, none⟩) 1 1 [1000] W (by simp) h
        have e3 := fun (W : World) (h : UAt W (some ⟨wr.heap.size, 0, none⟩) 1 [1000]) => cost_c (some ⟨wr.heap.size, 0, none⟩) 1 1 [1000] 10 W (by simp) h
        rw [HO.out] at e3
        generalize bestTo [1000] 40 = bo at e1 e2
        have E1 := Lib.hid e1
        have E2 : Hid (∀ (W : World) (h : UAt W (some ⟨wr.heap.size, 0, none⟩) 1 [1000]), _) := e2
        have E3 : Hid (∀ (W : World) (h : UAt W (some ⟨wr.heap.size, 0, none⟩) 1 [1000]), _) := e3
        clear e1 e2 e3
        go_wp2_with fail
        refine E1.out.mono ?_
        rintro e w2 ⟨rfl, hb2⟩
        have hU2 := hU0.below hb2
        go_wp2_with fail
        refine (E2.out _ hU2).mono ?_
        rintro e w3 ⟨rfl, hb3⟩
        have hU3 := hU2.below hb3
        go_wp2_with fail
        refine (E3.out _ hU3).mono ?_
        rintro e w4 ⟨rfl, hb4⟩
        have j1 := below2 hb0 hb2 hb0.size
        have j2 := below2 j1 hb3 j1.size
        have j3 := below2 j2 hb4 j2.size
        go_wp2_with fail
        go_ret
        exact ⟨rfl, j3⟩
end Go.Proofs.Ytaapdblddpnhdaa
