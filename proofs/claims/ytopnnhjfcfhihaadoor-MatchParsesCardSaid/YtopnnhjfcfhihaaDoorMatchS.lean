/-
  Layer 5 (match): two rows of matchers compared.
-/
import Derived.Test.YtopnnhjfcfhihaaDoorMatchForm
namespace Go.Proofs.YtopnnhjfcfhihaaDoor
open Go.RowKit Go.Deep
attribute [local go_sem] str_size str_append str_toList str_get str_extract
set_option linter.unusedVariables false
set_option linter.unusedSimpArgs false
theorem mat_ext {x y : Mat} (h1 : x.1 = y.1) (h2 : x.2.1 = y.2.1) (h3 : x.2.2.1 = y.2.2.1) (h4 : x.2.2.2 = y.2.2.2) : x = y := by
  rcases x with ⟨a, b, c, d⟩; rcases y with ⟨a', b', c', d'⟩
  simp only at h1 h2 h3 h4
  subst h1 h2 h3 h4
  rfl
set_option maxRecDepth 100000 in
set_option maxHeartbeats 4000000 in
theorem mrefSame_c (A A' : Option Addr) (len len' cap cap' : Nat) (l m : List Mat) (w : World) (hl : l.length ≤ 100000) (hm : m.length ≤ 100000) (hA : MsAt w A len l) (hB : MsAt w A' len' m) :
    Calls Tryd.prog 17 #[.slice A len cap, .slice A' len' cap'] w fun e w' => e = .returned (.bool (decide (l = m))) ∧ Below w.heap.size w w' := by
  have hle := hA.1
  have hme := hB.1
  subst hle hme
  by_cases hlen : l.length = m.length
  · obtain ⟨r, hr⟩ : ∃ r, decide (l = m) = r := ⟨_, rfl⟩
    rw [hr]
    have HR := Lib.hid hr
    clear hr
    go_enter Tryd.func17, Tryd.ntmps17
    go_wp2_with fail
    go_loopw [5] (fun c wr => ∃ i : Nat, i ≤ l.length ∧ c = .int .i64 i ∧ Hid (l.take i = m.take i) ∧ Below w.heap.size w wr) (fun c _ => l.length - (intOf c).toNat)
    case atStart => exact ⟨0, Nat.zero_le _, rfl, rfl, Below.refl _ _⟩
    case round =>
      obtain ⟨i, hi, rfl, heq, hb⟩ := hrel
      obtain ⟨wp, rfl⟩ : ∃ wp : World, wp = wr := ⟨_, rfl⟩
      by_cases hlt : i < l.length
      · obtain ⟨⟨r1, r2, r3, -, -⟩, ad, rfl, h2, h3, h4, h5, S, cS, h6, h7⟩ := (hA.below hb).2 i hlt
        obtain ⟨⟨s1, s2, s3, -, -⟩, ad', rfl, k2, k3, k4, k5, T, cT, k6, k7⟩ := (hB.below hb).2 i (by omega)
        have hne : l[i]'hlt ≠ m[i]'(by omega) → r = false := fun hq => by
          rw [← HR.out]
          apply decide_eq_false
          rintro rfl
          exact hq rfl
        have hnx : l[i]'hlt = m[i]'(by omega) → l.take (i + 1) = m.take (i + 1) := fun hq => by
          rw [List.take_succ_eq_append_getElem hlt, List.take_succ_eq_append_getElem (by omega), heq.out, hq]
        obtain ⟨x, hx⟩ : ∃ x, l[i]'hlt = x := ⟨_, rfl⟩
        obtain ⟨y, hy⟩ : ∃ y, m[i]'(by omega) = y := ⟨_, rfl⟩
        rw [hx] at r1 r2 r3 h3 h4 h5 h6 h7 hne hnx
        rw [hy] at s1 s2 s3 k3 k4 k5 k6 k7 hne hnx
        clear hx hy
        obtain ⟨xk, xn, xv, xs⟩ := x
        obtain ⟨yk, yn, yv, ys⟩ := y
        simp only at r1 r2 r3 h3 h4 h5 h6 h7 s1 s2 s3 k3 k4 k5 k6 k7
        have HNX := Lib.hid hnx
        have HNE := Lib.hid hne
        have H7 := Lib.hid h7
        have K7 := Lib.hid k7
        clear hnx hne h7 k7
        obtain ⟨a, ha⟩ : ∃ a, xs.length = a := ⟨_, rfl⟩
        obtain ⟨b, hbb⟩ : ∃ b, ys.length = b := ⟨_, rfl⟩
        rw [ha] at h6 r3
        rw [hbb] at k6 s3
        have HL := Lib.hid (And.intro ha hbb)
        clear ha hbb
        by_cases e1 : xk = yk
        · by_cases e2 : xn = yn
          · by_cases e3 : xv = yv
            · by_cases e4 : a = b
              · subst e1 e2 e3 e4
                have t1 : (xk != xk) = false := by simp
                have t2 : (xn != xn) = false := by simp
                have t3 : (xv != xv) = false := by simp
                go_wp2_with fail
                go_quiet (fail)
                go_wp2_with fail
                go_loopw [6] (fun c wr => ∃ j : Nat, j ≤ a ∧ c = .int .i64 j ∧ Hid (xs.take j = ys.take j) ∧ ∃ q, wr = wp.drewN q) (fun c _ => a - (intOf c).toNat)
                case atStart => exact ⟨0, Nat.zero_le _, rfl, rfl, nq, rfl⟩
                case round =>
                  obtain ⟨j, hj, rfl, HJ, q, rfl⟩ := hrel
                  by_cases hja : j < a
                  · have hjx : j < xs.length := by have := HL.out.1; omega
                    have hjy : j < ys.length := by have := HL.out.2; omega
                    obtain ⟨p1, aq, rfl, p2, p3⟩ := H7.out.2 j hjx
                    obtain ⟨q1, bq, rfl, q2, q3⟩ := K7.out.2 j hjy
                    have hnx2 : xs[j]'hjx = ys[j]'hjy → xs.take (j + 1) = ys.take (j + 1) := fun hq => by
                      rw [List.take_succ_eq_append_getElem hjx, List.take_succ_eq_append_getElem hjy, HJ.out, hq]
                    have hne2 : xs[j]'hjx ≠ ys[j]'hjy → r = false := fun hq => HNE.out (fun e => by
                      injection e with _ e; injection e with _ e; injection e with _ e
                      subst e
                      exact hq rfl)
                    obtain ⟨u, hu⟩ : ∃ u, xs[j]'hjx = u := ⟨_, rfl⟩
                    obtain ⟨v, hv⟩ : ∃ v, ys[j]'hjy = v := ⟨_, rfl⟩
                    rw [hu] at p1 p3 hnx2 hne2
                    rw [hv] at q1 q3 hnx2 hne2
                    clear hu hv
                    by_cases huv : u = v
                    · have HE := Lib.hid (hnx2 huv)
                      subst huv
                      have t4 : (u != u) = false := by simp
                      clear hnx2 hne2
                      go_wp2_with fail
                      go_quiet (fail)
                      go_wp2_with fail
                      go_roundw
                      case rel => exact ⟨j + 1, by omega, by go_num, HE.out, _, rfl⟩
                      case measure => simp [intOf]; omega
                    · have e := hne2 huv
                      subst e
                      have t4 : (u == v) = false := by rw [beq_eq_false_iff_ne]; exact huv
                      clear hnx2 hne2 huv
                      go_wp2_with fail
                      go_quiet (fail)
                      go_wp2_with fail
                      go_ret
                      exact ⟨rfl, below_drewN (below_drewN hb _) _⟩
                  · obtain rfl : j = a := by omega
                    have hss : xs = ys := by
                      have h := HJ.out
                      rwa [List.take_of_length_le (by have := HL.out.1; omega), List.take_of_length_le (by have := HL.out.2; omega)] at h
                    have HE := Lib.hid (HNX.out (by rw [hss]))
                    clear hss
                    go_wp2_with fail
                    go_roundw
                    case rel => exact ⟨i + 1, by omega, by go_num, HE.out, below_drewN hb _⟩
                    case measure => simp [intOf]; omega
              · have e := HNE.out (fun e => by
                  injection e with _ e; injection e with _ e; injection e with _ e
                  exact e4 (by rw [← HL.out.1, ← HL.out.2, e]))
                subst e e1 e2 e3
                have t1 : (xk == xk) = true := by simp
                have t2 : (xn == xn) = true := by simp
                have t3 : (xv == xv) = true := by simp
                have t4 : ((a : Int) == (b : Int)) = false := by rw [beq_eq_false_iff_ne]; omega
                clear e4
                go_wp2_with fail
                go_quiet (fail)
                go_wp2_with fail
                go_ret
                exact ⟨rfl, below_drewN hb _⟩
            · have e := HNE.out (fun e => by
                injection e with _ e; injection e with _ e; injection e with e _
                exact e3 e)
              subst e e1 e2
              have t1 : (xk == xk) = true := by simp
              have t2 : (xn == xn) = true := by simp
              have t3 : (xv == yv) = false := by rw [beq_eq_false_iff_ne]; exact e3
              clear e3
              go_wp2_with fail
              go_quiet (fail)
              go_wp2_with fail
              go_ret
              exact ⟨rfl, below_drewN hb _⟩
          · have e := HNE.out (fun e => by
              injection e with _ e; injection e with e _
              exact e2 e)
            subst e e1
            have t1 : (xk == xk) = true := by simp
            have t2 : (xn == yn) = false := by rw [beq_eq_false_iff_ne]; exact e2
            clear e2
            go_wp2_with fail
            go_quiet (fail)
            go_wp2_with fail
            go_ret
            exact ⟨rfl, below_drewN hb _⟩
        · have e := HNE.out (fun e => by
            injection e with e _
            exact e1 e)
          subst e
          have t1 : (xk == yk) = false := by rw [beq_eq_false_iff_ne]; exact e1
          have t1' : (xk != yk) = true := by simp [e1]
          clear e1
          go_wp2_with fail
          go_quiet (fail)
          go_wp2_with fail
          go_ret
          exact ⟨rfl, below_drewN hb _⟩
      · obtain rfl : i = l.length := by omega
        have he : decide (l = m) = true := by
          have h := heq.out
          rw [List.take_length, hlen, List.take_length] at h
          exact decide_eq_true h
        rw [HR.out] at he
        have HE := Lib.hid he
        clear he
        go_wp2_with fail
        go_ret
        exact ⟨ret_bool HE.out.symm, hb⟩
  · have he : decide (l = m) = false := by
      apply decide_eq_false; intro e; exact hlen (by rw [e])
    rw [he]
    go_enter Tryd.func17, Tryd.ntmps17
    go_wp2_with fail
    go_ret
    exact ⟨rfl, Below.refl _ _⟩
end Go.Proofs.YtopnnhjfcfhihaaDoor
