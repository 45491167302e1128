/-
  Layer 5 (match): what the document's Print returns; all that was in memory stays.
-/
import Derived.Test.YtopnnhjfcfhihaaDoorMatchP
import Derived.Test.YtopnnhjfcfhihaaDoorMatchRefC
namespace Go.Proofs.YtopnnhjfcfhihaaDoor
open Go.RowKit Go.Deep
attribute [local go_sem] str_size str_append str_toList str_get str_extract
set_option linter.unusedVariables false
set_option linter.unusedSimpArgs false
theorem refSign_c (k : Int) (w : World) : Calls Tryd.prog 28 #[.int .i64 k] w fun e w' => e = .returned (.string (str (signL k))) ∧ w = w' := by
  by_cases h0 : k = 0
  · subst h0
    go_enter Tryd.func28, Tryd.ntmps28
    go_wp2_with fail
    go_ret
    exact ⟨rfl, rfl⟩
  have t0 : (k == 0) = false := by simpa using h0
  by_cases h1 : k = 1
  · subst h1
    go_enter Tryd.func28, Tryd.ntmps28
    go_wp2_with fail
    go_ret
    exact ⟨rfl, rfl⟩
  have t1 : (k == 1) = false := by simpa using h1
  by_cases h2 : k = 2
  · subst h2
    go_enter Tryd.func28, Tryd.ntmps28
    go_wp2_with fail
    go_ret
    exact ⟨rfl, rfl⟩
  have t2 : (k == 2) = false := by simpa using h2
  have e : signL k = [64, 61] := by unfold signL; rw [if_neg h0, if_neg h1, if_neg h2]
  rw [e]
  clear h0 h1 h2 e
  go_enter Tryd.func28, Tryd.ntmps28
  go_wp2_with fail
  go_ret
  exact ⟨rfl, rfl⟩
theorem partsM_step {ms : List Mat} {i : Nat} (h : i < ms.length) {m : Mat} (hm : ms[i] = m) : partsM (ms.take (i + 1)) = partsM (ms.take i) ++ ((if i = 0 then [] else [44]) ++ (m.2.1 ++ (signL m.1 ++ bodyL m))) := by
  rw [partsM_take h, hm]; rfl
theorem joinQ_len_take {s : List (List UInt8)} (h1 : s.length ≤ 8) (h : ∀ x ∈ s, x.length ≤ 32) (i : Nat) : (joinQ (s.take i)).length ≤ 536 :=
  joinQ_len (by rw [List.length_take]; omega) (fun x hx => h x (List.mem_of_mem_take hx))
set_option maxRecDepth 100000 in
set_option maxHeartbeats 4000000 in
theorem mrefPrint_c (A : Option Addr) (len cap : Nat) (ms : List Mat) (w : World) (hl : len ≤ 9223372036854775807) (hM : MsAt w A len ms) (hsm : ∀ m ∈ ms, smallM m) :
    Calls Tryd.prog 15 #[.slice A len cap] w fun e w' => e = .returned (.tuple #[.string (str (if okMs ms = true then printM ms else [])), .int .i64 (eM (okMs ms))]) ∧ Below w.heap.size w w' := by
  have hle := hM.1
  subst hle
  obtain ⟨R, hR⟩ : ∃ R, (if okMs ms = true then printM ms else []) = R := ⟨_, rfl⟩
  obtain ⟨E, hE⟩ : ∃ E, eM (okMs ms) = E := ⟨_, rfl⟩
  rw [hR, hE]
  have hbad : okMs ms = false → R = [] ∧ E = 50 := fun h => by rw [← hR, ← hE, h]; exact ⟨rfl, rfl⟩
  have hgood : okMs ms = true → printM ms = R ∧ E = 0 := fun h => by rw [← hR, ← hE, h]; exact ⟨rfl, rfl⟩
  have HBAD := Lib.hid hbad
  have HGOOD := Lib.hid hgood
  clear hR hE hbad hgood
  go_enter Tryd.func15, Tryd.ntmps15
  go_wp2_with fail
  go_loopw [4] (fun c wr => ∃ i : Nat, i ≤ ms.length ∧ c = .int .i64 i ∧ Hid (∀ m ∈ ms.take i, chkL m = true) ∧ Below w.heap.size w wr) (fun c _ => ms.length - (intOf c).toNat)
  case atStart => exact ⟨0, Nat.zero_le _, rfl, by intro m hm; simp at hm, Below.refl _ _⟩
  case round =>
    obtain ⟨i, hi, rfl, HI, hb⟩ := hrel
    have hsz := hb.size
    by_cases hlt : i < ms.length
    · obtain ⟨⟨r1, r2, r3, r4, r5⟩, ad, rfl, h2, h3, h4, h5, S, cS, h6, h7⟩ := (hM.below hb).2 i hlt
      have hms := hsm _ (List.getElem_mem hlt)
      have hbd := fun h => okMs_bad hlt h
      have hnx : chkL (ms[i]'hlt) = true → ∀ m ∈ ms.take (i + 1), chkL m = true := fun h m hm => by
        rw [List.take_succ_eq_append_getElem hlt] at hm
        rcases List.mem_append.1 hm with hm | hm
        · exact HI.out m hm
        · simp at hm; rw [hm]; exact h
      obtain ⟨m, hm⟩ : ∃ m, ms[i]'hlt = m := ⟨_, rfl⟩
      rw [hm] at h3 h4 h5 h6 h7 r1 r2 r3 r4 r5 hms hbd hnx
      clear hm
      have c1 := mrefCheck_c m S cS _ hms h7
      have HC1 := Lib.hid c1
      clear h7 c1
      cases hq : chkL m with
      | true =>
        have HNX := Lib.hid (hnx hq)
        rw [hq] at HC1
        have e0 : eM true = 0 := rfl
        rw [e0] at HC1
        clear hnx hbd hq e0
        go_wp2_with (go_at_call 9; refine HC1.out.mono ?_; rintro e w1 ⟨rfl, hb1⟩; have hb2 := below2 hb hb1 hsz; dsimp only)
        go_roundw
        case rel => exact ⟨i + 1, by omega, by go_num, HNX.out, hb2⟩
        case measure => simp [intOf]; omega
      | false =>
        obtain ⟨hR0, hE0⟩ := HBAD.out (hbd hq)
        subst hR0 hE0
        rw [hq] at HC1
        have e0 : eM false = 50 := rfl
        rw [e0] at HC1
        clear hnx hbd hq e0
        go_wp2_with (go_at_call 9; refine HC1.out.mono ?_; rintro e w1 ⟨rfl, hb1⟩; have hb2 := below2 hb hb1 hsz; dsimp only)
        go_ret2
        exact ⟨rfl, hb2⟩
    · obtain rfl : i = ms.length := by omega
      have hall := HI.out
      rw [List.take_length] at hall
      clear HI
      by_cases h8 : 8 < (ms.length : Int)
      · have ho : okMs ms = false := by unfold okMs; rw [show decide (ms.length ≤ 8) = false by simp; omega]; rfl
        obtain ⟨hR0, hE0⟩ := HBAD.out ho
        subst hR0 hE0
        clear ho hall
        go_wp2_with fail
        go_ret2
        exact ⟨rfl, hb⟩
      · have ho : okMs ms = true := by unfold okMs; rw [show decide (ms.length ≤ 8) = true by simp; omega, Bool.true_and, List.all_eq_true]; exact hall
        obtain ⟨hR0, hE0⟩ := HGOOD.out ho
        subst hE0
        have HR := Lib.hid hR0
        have hl8 : ms.length ≤ 8 := by omega
        have HALL := Lib.hid hall
        have hpl : ∀ j, (partsM (ms.take j)).length ≤ 4440 := fun j => partsM_len (by rw [List.length_take]; omega) (fun m hm => hall m (List.mem_of_mem_take hm))
        have HPL := Lib.hid hpl
        clear ho hall hR0 HBAD HGOOD h8 hpl
        go_wp2_with fail
        obtain ⟨wo, rfl⟩ : ∃ wo : World, wo = wr := ⟨_, rfl⟩
        go_loopw [5, 6] (fun u c wr => ∃ (i : Nat) (L : List UInt8), i ≤ ms.length ∧ c = .int .i64 i ∧ u = .string (str L) ∧ Hid (L = 91 :: partsM (ms.take i)) ∧ Below w.heap.size w wr) (fun _ c _ => ms.length - (intOf c).toNat)
        case atStart => exact ⟨0, [91], Nat.zero_le _, rfl, rfl, rfl, hb⟩
        case round =>
          clear hb hsz
          obtain ⟨i, L, hi, rfl, rfl, HL, hb⟩ := hrel
          have hsz := hb.size
          have hLl : L.length ≤ 4441 := by rw [HL.out]; have := HPL.out i; simp; omega
          obtain ⟨wp, rfl⟩ : ∃ wp : World, wp = wr := ⟨_, rfl⟩
          by_cases hlt : i < ms.length
          · obtain ⟨⟨r1, r2, r3, r4, r5⟩, ad, rfl, h2, h3, h4, h5, S, cS, h6, h7⟩ := (hM.below hb).2 i hlt
            have hck := HALL.out _ (List.getElem_mem hlt)
            obtain ⟨m, hm⟩ : ∃ m, ms[i]'hlt = m := ⟨_, rfl⟩
            have hst := partsM_step hlt hm
            rw [hm] at h3 h4 h5 h6 h7 r1 r2 r3 r4 r5 hck
            clear hm
            obtain ⟨z1, z2, z3, z4⟩ := chkL_small hck
            have hcs := chkL_is hck
            obtain ⟨k, n, v, s⟩ := m
            unfold bodyL at hst
            simp only at h3 h4 h5 h6 h7 r1 r2 r3 r4 r5 z1 z2 z3 z4 hcs hst
            have hbc := (Below.refl wp.heap.size wp).alloc (Nat.le_refl _) (.cells #[.int .i64 k, .string (str n), .string (str v), .slice S s.length cS] 30)
            have d := blk_new wp (.cells #[.int .i64 k, .string (str n), .string (str v), .slice S s.length cS] 30)
            have cs := fun W => refSign_c k W
            have cq := fun W => refQuote_c v W (by omega)
            have hsl := signL_len k
            have hql := quoteL_len v
            have hjl := joinQ_len_take z3 z4
            obtain ⟨M, hM2⟩ : ∃ M, signL k = M := ⟨_, rfl⟩
            obtain ⟨Q, hQ⟩ : ∃ Q, quoteL v = Q := ⟨_, rfl⟩
            rw [hM2] at cs hsl hst
            rw [hQ] at cq hql hst
            have HSS := Lib.hid (h7.below hbc)
            have HST := Lib.hid hst
            have HJL := Lib.hid hjl
            have HZ4 := Lib.hid z4
            have d0 := blk_cell d 0
            have d1 := blk_cell d 1
            have d2 := blk_cell d 2
            have d3 := blk_cell d 3
            simp only [List.getElem?_toArray, List.getElem?_cons_zero, List.getElem?_cons_succ] at d0 d1 d2 d3
            obtain ⟨wb, hwb⟩ : ∃ wb, wb = wp.alloc (.cells #[.int .i64 k, .string (str n), .string (str v), .slice S s.length cS] 30) := ⟨_, rfl⟩
            rw [← hwb] at d0 d1 d2 d3 HSS hbc
            have HD := Lib.hid (And.intro d0 (And.intro d1 (And.intro d2 d3)))
            have HBC := Lib.hid hbc
            have HWB := Lib.hid hwb
            clear h7 hst hjl z4 hM2 hQ d d0 d1 d2 d3 hbc hwb hck
            by_cases hi0 : i = 0
            · subst hi0
              have ea : ad.add 0 = ad := by rcases ad with ⟨b, o, p⟩; cases p <;> rfl
              have eb : ad.add (0 * 4) = ad := by rw [Nat.zero_mul]; exact ea
              rw [eb] at h2 h3 h4 h5 h6
              have k1 : ¬ (9223372036854775807 < L.length + n.length) := by omega
              have k2 : ¬ (9223372036854775807 < L.length + n.length + M.length) := by omega
              have k3 : ¬ (9223372036854775807 < L.length + n.length + M.length + Q.length) := by omega
              rcases hcs with ⟨_, ⟨hk3, hv0, hsL⟩ | ⟨hk0, hk3, _, hs0⟩⟩
              · subst hk3
                have hs1 := (setL_len hsL).1
                clear hv0 hsL
                obtain ⟨X, hX⟩ : ∃ X, X = L ++ (n ++ M) := ⟨_, rfl⟩
                have HX : Hid (str L ++ str n ++ str M = str X ∧ X.length ≤ 5200 ∧ X ++ joinQ s = 91 :: partsM (ms.take (0 + 1)) ∧ X = L ++ (n ++ M)) := by
                  refine ⟨by rw [hX]; show str L ++ str n ++ str M = _; simp only [str_append, List.append_assoc, List.cons_append, List.nil_append], by rw [hX]; simp; omega, ?_, hX⟩
                  rw [hX]
                  rw [HST.out, HL.out, if_pos rfl]; try simp
                clear hX
                go_wp2_with fail
                go_quiet (first | (go_at_call 28; exact Calls.quiet_of_same ((cs _).mono fun _ _ ⟨ha, hb⟩ => ⟨ha, hb.symm⟩)))
                go_wp2_with fail
                go_loopw [5, 8] (fun u c wr => ∃ (j : Nat) (Y : List UInt8), j ≤ s.length ∧ c = .int .i64 j ∧ u = .string (str Y) ∧ Hid (Y = X ++ joinQ (s.take j)) ∧ ∃ q, wr = wb.drewN q) (fun _ c _ => s.length - (intOf c).toNat)
                case atStart => exact ⟨0, X, Nat.zero_le _, rfl, by first | (rw [HX.out.1]; done) | (rw [HX.out.2.2.2]; done) | (rw [← HX.out.1]; done) | (rw [← HX.out.1]; rfl), by show _ = _; simp [joinQ, Lib.join_nil], nq, by rw [HWB.out]⟩
                case round =>
                  obtain ⟨j, Y, hj, rfl, rfl, HY, q, rfl⟩ := hrel
                  have hYl : Y.length ≤ 6000 := by rw [HY.out, List.length_append]; have := HJL.out j; have := HX.out.2.1; omega
                  obtain ⟨d0, d1, d2, d3⟩ := HD.out
                  by_cases hjs : j < s.length
                  · obtain ⟨-, aq, rfl, x2, x3⟩ := HSS.out.2 j hjs
                    have hjt := joinQ_take hjs
                    have hxl := HZ4.out _ (List.getElem_mem hjs)
                    obtain ⟨x, hx⟩ : ∃ x, s[j]'hjs = x := ⟨_, rfl⟩
                    rw [hx] at x3 hjt hxl
                    have cx := fun W => refQuote_c x W (by omega)
                    have hql2 := quoteL_len x
                    obtain ⟨P, hP⟩ : ∃ P, quoteL x = P := ⟨_, rfl⟩
                    rw [hP] at cx hjt hql2
                    have HJT := Lib.hid hjt
                    clear hjt hx hP
                    by_cases hj0 : j = 0
                    · subst hj0
                      have eaq : aq.add 0 = aq := by rcases aq with ⟨b, o, p⟩; cases p <;> rfl
                      rw [eaq] at x2 x3
                      have kk : ¬ (9223372036854775807 < Y.length + P.length) := by omega
                      have HE : Hid (str Y ++ str P = str (Y ++ P) ∧ Y ++ P = X ++ joinQ (s.take (0 + 1))) := ⟨str_append _ _, by rw [HJT.out, HY.out]; try simp⟩
                      go_wp2_with (go_at_call 29; refine (cx _).mono ?_; rintro e w4 ⟨rfl, rfl⟩; dsimp only)
                      go_roundw
                      case rel => exact ⟨1, Y ++ P, by omega, by go_num, by first | rfl | (rw [HE.out.1]; done) | (rw [← HE.out.1]; done) | (rw [← HE.out.1]; rfl), HE.out.2, _, rfl⟩
                      case measure => simp [intOf]; omega
                    · have hj1 : (0 : Int) < (j : Int) := by omega
                      have kk1 : ¬ (9223372036854775807 < Y.length + 1) := by omega
                      have kk2 : ¬ (9223372036854775807 < Y.length + 1 + P.length) := by omega
                      have HE : Hid (str Y ++ { data := #[124] } ++ str P = str (Y ++ (124 :: P)) ∧ Y ++ (124 :: P) = X ++ joinQ (s.take (j + 1))) := ⟨by show str Y ++ str [124] ++ str P = _; rw [str_append, str_append, List.append_assoc]; rfl, by rw [HJT.out, HY.out, if_neg hj0]; simp⟩
                      go_wp2_with (go_at_call 29; refine (cx _).mono ?_; rintro e w4 ⟨rfl, rfl⟩; dsimp only)
                      go_roundw
                      case rel => exact ⟨j + 1, Y ++ (124 :: P), by omega, by go_num, by first | rfl | (rw [HE.out.1]; done) | (rw [← HE.out.1]; done) | (rw [← HE.out.1]; rfl), HE.out.2, _, rfl⟩
                      case measure => simp [intOf]; omega
                  · obtain rfl : j = s.length := by omega
                    have HE : Hid (Y = 91 :: partsM (ms.take (0 + 1))) := by
                      show _ = _
                      have := HY.out
                      rw [List.take_length, HX.out.2.2.1] at this
                      exact this
                    have HBE : Hid (Below w.heap.size w (wb.drewN q)) := below_drewN (hb.trans (HBC.out.mono hsz)) q
                    go_wp2_with fail
                    go_roundw
                    case rel => exact ⟨1, Y, by omega, by go_num, rfl, HE.out, HBE.out⟩
                    case measure => simp [intOf]; omega
              · have hkne : ¬ k = 3 := by omega
                have tk3 : decide (k < 3) = true := by simp; omega
                have hjs0 : joinQ s = [] := by rw [hs0]; rfl
                obtain ⟨X, hX⟩ : ∃ X, X = L ++ (n ++ (M ++ Q)) := ⟨_, rfl⟩
                have HX : Hid (str L ++ str n ++ str M ++ str Q = str X ∧ X.length ≤ 5200 ∧ X ++ joinQ s = 91 :: partsM (ms.take (0 + 1)) ∧ X = L ++ (n ++ (M ++ Q))) := by
                  refine ⟨by rw [hX]; show str L ++ str n ++ str M ++ str Q = _; simp only [str_append, List.append_assoc, List.cons_append, List.nil_append], by rw [hX]; simp; omega, ?_, hX⟩
                  rw [hX]
                  rw [HST.out, HL.out, if_neg hkne, hjs0]; simp
                clear hX
                clear hjs0 hkne hs0
                go_wp2_with fail
                go_quiet (first | (go_at_call 28; exact Calls.quiet_of_same ((cs _).mono fun _ _ ⟨ha, hb⟩ => ⟨ha, hb.symm⟩)))
                go_wp2_with (go_at_call 29; refine (cq _).mono ?_; rintro e w4 ⟨rfl, rfl⟩; dsimp only)
                go_loopw [5, 8] (fun u c wr => ∃ (j : Nat) (Y : List UInt8), j ≤ s.length ∧ c = .int .i64 j ∧ u = .string (str Y) ∧ Hid (Y = X ++ joinQ (s.take j)) ∧ ∃ q, wr = wb.drewN q) (fun _ c _ => s.length - (intOf c).toNat)
                case atStart => exact ⟨0, X, Nat.zero_le _, rfl, by first | (rw [HX.out.1]; done) | (rw [HX.out.2.2.2]; done) | (rw [← HX.out.1]; done) | (rw [← HX.out.1]; rfl), by show _ = _; simp [joinQ, Lib.join_nil], nq, by rw [HWB.out]⟩
                case round =>
                  obtain ⟨j, Y, hj, rfl, rfl, HY, q, rfl⟩ := hrel
                  have hYl : Y.length ≤ 6000 := by rw [HY.out, List.length_append]; have := HJL.out j; have := HX.out.2.1; omega
                  obtain ⟨d0, d1, d2, d3⟩ := HD.out
                  by_cases hjs : j < s.length
                  · obtain ⟨-, aq, rfl, x2, x3⟩ := HSS.out.2 j hjs
                    have hjt := joinQ_take hjs
                    have hxl := HZ4.out _ (List.getElem_mem hjs)
                    obtain ⟨x, hx⟩ : ∃ x, s[j]'hjs = x := ⟨_, rfl⟩
                    rw [hx] at x3 hjt hxl
                    have cx := fun W => refQuote_c x W (by omega)
                    have hql2 := quoteL_len x
                    obtain ⟨P, hP⟩ : ∃ P, quoteL x = P := ⟨_, rfl⟩
                    rw [hP] at cx hjt hql2
                    have HJT := Lib.hid hjt
                    clear hjt hx hP
                    by_cases hj0 : j = 0
                    · subst hj0
                      have eaq : aq.add 0 = aq := by rcases aq with ⟨b, o, p⟩; cases p <;> rfl
                      rw [eaq] at x2 x3
                      have kk : ¬ (9223372036854775807 < Y.length + P.length) := by omega
                      have HE : Hid (str Y ++ str P = str (Y ++ P) ∧ Y ++ P = X ++ joinQ (s.take (0 + 1))) := ⟨str_append _ _, by rw [HJT.out, HY.out]; try simp⟩
                      go_wp2_with (go_at_call 29; refine (cx _).mono ?_; rintro e w4 ⟨rfl, rfl⟩; dsimp only)
                      go_roundw
                      case rel => exact ⟨1, Y ++ P, by omega, by go_num, by first | rfl | (rw [HE.out.1]; done) | (rw [← HE.out.1]; done) | (rw [← HE.out.1]; rfl), HE.out.2, _, rfl⟩
                      case measure => simp [intOf]; omega
                    · have hj1 : (0 : Int) < (j : Int) := by omega
                      have kk1 : ¬ (9223372036854775807 < Y.length + 1) := by omega
                      have kk2 : ¬ (9223372036854775807 < Y.length + 1 + P.length) := by omega
                      have HE : Hid (str Y ++ { data := #[124] } ++ str P = str (Y ++ (124 :: P)) ∧ Y ++ (124 :: P) = X ++ joinQ (s.take (j + 1))) := ⟨by show str Y ++ str [124] ++ str P = _; rw [str_append, str_append, List.append_assoc]; rfl, by rw [HJT.out, HY.out, if_neg hj0]; simp⟩
                      go_wp2_with (go_at_call 29; refine (cx _).mono ?_; rintro e w4 ⟨rfl, rfl⟩; dsimp only)
                      go_roundw
                      case rel => exact ⟨j + 1, Y ++ (124 :: P), by omega, by go_num, by first | rfl | (rw [HE.out.1]; done) | (rw [← HE.out.1]; done) | (rw [← HE.out.1]; rfl), HE.out.2, _, rfl⟩
                      case measure => simp [intOf]; omega
                  · obtain rfl : j = s.length := by omega
                    have HE : Hid (Y = 91 :: partsM (ms.take (0 + 1))) := by
                      show _ = _
                      have := HY.out
                      rw [List.take_length, HX.out.2.2.1] at this
                      exact this
                    have HBE : Hid (Below w.heap.size w (wb.drewN q)) := below_drewN (hb.trans (HBC.out.mono hsz)) q
                    go_wp2_with fail
                    go_roundw
                    case rel => exact ⟨1, Y, by omega, by go_num, rfl, HE.out, HBE.out⟩
                    case measure => simp [intOf]; omega
            · have hi1 : (0 : Int) < (i : Int) := by omega
              have k0 : ¬ (9223372036854775807 < L.length + 1) := by omega
              have k1 : ¬ (9223372036854775807 < L.length + 1 + n.length) := by omega
              have k2 : ¬ (9223372036854775807 < L.length + 1 + n.length + M.length) := by omega
              have k3 : ¬ (9223372036854775807 < L.length + 1 + n.length + M.length + Q.length) := by omega
              rcases hcs with ⟨_, ⟨hk3, hv0, hsL⟩ | ⟨hk0, hk3, _, hs0⟩⟩
              · subst hk3
                have hs1 := (setL_len hsL).1
                clear hv0 hsL
                obtain ⟨X, hX⟩ : ∃ X, X = L ++ (44 :: (n ++ M)) := ⟨_, rfl⟩
                have HX : Hid (str L ++ { data := #[44] } ++ str n ++ str M = str X ∧ X.length ≤ 5200 ∧ X ++ joinQ s = 91 :: partsM (ms.take (i + 1)) ∧ X = L ++ (44 :: (n ++ M))) := by
                  refine ⟨by rw [hX]; show str L ++ str [44] ++ str n ++ str M = _; simp only [str_append, List.append_assoc, List.cons_append, List.nil_append], by rw [hX]; simp; omega, ?_, hX⟩
                  rw [hX]
                  rw [HST.out, HL.out, if_pos rfl, if_neg hi0]; simp
                clear hX
                go_wp2_with fail
                go_quiet (first | (go_at_call 28; exact Calls.quiet_of_same ((cs _).mono fun _ _ ⟨ha, hb⟩ => ⟨ha, hb.symm⟩)))
                go_wp2_with fail
                go_loopw [5, 8] (fun u c wr => ∃ (j : Nat) (Y : List UInt8), j ≤ s.length ∧ c = .int .i64 j ∧ u = .string (str Y) ∧ Hid (Y = X ++ joinQ (s.take j)) ∧ ∃ q, wr = wb.drewN q) (fun _ c _ => s.length - (intOf c).toNat)
                case atStart => exact ⟨0, X, Nat.zero_le _, rfl, by first | (rw [HX.out.1]; done) | (rw [HX.out.2.2.2]; done) | (rw [← HX.out.1]; done) | (rw [← HX.out.1]; rfl), by show _ = _; simp [joinQ, Lib.join_nil], nq, by rw [HWB.out]⟩
                case round =>
                  obtain ⟨j, Y, hj, rfl, rfl, HY, q, rfl⟩ := hrel
                  have hYl : Y.length ≤ 6000 := by rw [HY.out, List.length_append]; have := HJL.out j; have := HX.out.2.1; omega
                  obtain ⟨d0, d1, d2, d3⟩ := HD.out
                  by_cases hjs : j < s.length
                  · obtain ⟨-, aq, rfl, x2, x3⟩ := HSS.out.2 j hjs
                    have hjt := joinQ_take hjs
                    have hxl := HZ4.out _ (List.getElem_mem hjs)
                    obtain ⟨x, hx⟩ : ∃ x, s[j]'hjs = x := ⟨_, rfl⟩
                    rw [hx] at x3 hjt hxl
                    have cx := fun W => refQuote_c x W (by omega)
                    have hql2 := quoteL_len x
                    obtain ⟨P, hP⟩ : ∃ P, quoteL x = P := ⟨_, rfl⟩
                    rw [hP] at cx hjt hql2
                    have HJT := Lib.hid hjt
                    clear hjt hx hP
                    by_cases hj0 : j = 0
                    · subst hj0
                      have eaq : aq.add 0 = aq := by rcases aq with ⟨b, o, p⟩; cases p <;> rfl
                      rw [eaq] at x2 x3
                      have kk : ¬ (9223372036854775807 < Y.length + P.length) := by omega
                      have HE : Hid (str Y ++ str P = str (Y ++ P) ∧ Y ++ P = X ++ joinQ (s.take (0 + 1))) := ⟨str_append _ _, by rw [HJT.out, HY.out]; try simp⟩
                      go_wp2_with (go_at_call 29; refine (cx _).mono ?_; rintro e w4 ⟨rfl, rfl⟩; dsimp only)
                      go_roundw
                      case rel => exact ⟨1, Y ++ P, by omega, by go_num, by first | rfl | (rw [HE.out.1]; done) | (rw [← HE.out.1]; done) | (rw [← HE.out.1]; rfl), HE.out.2, _, rfl⟩
                      case measure => simp [intOf]; omega
                    · have hj1 : (0 : Int) < (j : Int) := by omega
                      have kk1 : ¬ (9223372036854775807 < Y.length + 1) := by omega
                      have kk2 : ¬ (9223372036854775807 < Y.length + 1 + P.length) := by omega
                      have HE : Hid (str Y ++ { data := #[124] } ++ str P = str (Y ++ (124 :: P)) ∧ Y ++ (124 :: P) = X ++ joinQ (s.take (j + 1))) := ⟨by show str Y ++ str [124] ++ str P = _; rw [str_append, str_append, List.append_assoc]; rfl, by rw [HJT.out, HY.out, if_neg hj0]; simp⟩
                      go_wp2_with (go_at_call 29; refine (cx _).mono ?_; rintro e w4 ⟨rfl, rfl⟩; dsimp only)
                      go_roundw
                      case rel => exact ⟨j + 1, Y ++ (124 :: P), by omega, by go_num, by first | rfl | (rw [HE.out.1]; done) | (rw [← HE.out.1]; done) | (rw [← HE.out.1]; rfl), HE.out.2, _, rfl⟩
                      case measure => simp [intOf]; omega
                  · obtain rfl : j = s.length := by omega
                    have HE : Hid (Y = 91 :: partsM (ms.take (i + 1))) := by
                      show _ = _
                      have := HY.out
                      rw [List.take_length, HX.out.2.2.1] at this
                      exact this
                    have HBE : Hid (Below w.heap.size w (wb.drewN q)) := below_drewN (hb.trans (HBC.out.mono hsz)) q
                    go_wp2_with fail
                    go_roundw
                    case rel => exact ⟨i + 1, Y, by omega, by go_num, rfl, HE.out, HBE.out⟩
                    case measure => simp [intOf]; omega
              · have hkne : ¬ k = 3 := by omega
                have tk3 : decide (k < 3) = true := by simp; omega
                have hjs0 : joinQ s = [] := by rw [hs0]; rfl
                obtain ⟨X, hX⟩ : ∃ X, X = L ++ (44 :: (n ++ (M ++ Q))) := ⟨_, rfl⟩
                have HX : Hid (str L ++ { data := #[44] } ++ str n ++ str M ++ str Q = str X ∧ X.length ≤ 5200 ∧ X ++ joinQ s = 91 :: partsM (ms.take (i + 1)) ∧ X = L ++ (44 :: (n ++ (M ++ Q)))) := by
                  refine ⟨by rw [hX]; show str L ++ str [44] ++ str n ++ str M ++ str Q = _; simp only [str_append, List.append_assoc, List.cons_append, List.nil_append], by rw [hX]; simp; omega, ?_, hX⟩
                  rw [hX]
                  rw [HST.out, HL.out, if_neg hkne, hjs0, if_neg hi0]; simp
                clear hX
                clear hjs0 hkne hs0
                go_wp2_with fail
                go_quiet (first | (go_at_call 28; exact Calls.quiet_of_same ((cs _).mono fun _ _ ⟨ha, hb⟩ => ⟨ha, hb.symm⟩)))
                go_wp2_with (go_at_call 29; refine (cq _).mono ?_; rintro e w4 ⟨rfl, rfl⟩; dsimp only)
                go_loopw [5, 8] (fun u c wr => ∃ (j : Nat) (Y : List UInt8), j ≤ s.length ∧ c = .int .i64 j ∧ u = .string (str Y) ∧ Hid (Y = X ++ joinQ (s.take j)) ∧ ∃ q, wr = wb.drewN q) (fun _ c _ => s.length - (intOf c).toNat)
                case atStart => exact ⟨0, X, Nat.zero_le _, rfl, by first | (rw [HX.out.1]; done) | (rw [HX.out.2.2.2]; done) | (rw [← HX.out.1]; done) | (rw [← HX.out.1]; rfl), by show _ = _; simp [joinQ, Lib.join_nil], nq, by rw [HWB.out]⟩
                case round =>
                  obtain ⟨j, Y, hj, rfl, rfl, HY, q, rfl⟩ := hrel
                  have hYl : Y.length ≤ 6000 := by rw [HY.out, List.length_append]; have := HJL.out j; have := HX.out.2.1; omega
                  obtain ⟨d0, d1, d2, d3⟩ := HD.out
                  by_cases hjs : j < s.length
                  · obtain ⟨-, aq, rfl, x2, x3⟩ := HSS.out.2 j hjs
                    have hjt := joinQ_take hjs
                    have hxl := HZ4.out _ (List.getElem_mem hjs)
                    obtain ⟨x, hx⟩ : ∃ x, s[j]'hjs = x := ⟨_, rfl⟩
                    rw [hx] at x3 hjt hxl
                    have cx := fun W => refQuote_c x W (by omega)
                    have hql2 := quoteL_len x
                    obtain ⟨P, hP⟩ : ∃ P, quoteL x = P := ⟨_, rfl⟩
                    rw [hP] at cx hjt hql2
                    have HJT := Lib.hid hjt
                    clear hjt hx hP
                    by_cases hj0 : j = 0
                    · subst hj0
                      have eaq : aq.add 0 = aq := by rcases aq with ⟨b, o, p⟩; cases p <;> rfl
                      rw [eaq] at x2 x3
                      have kk : ¬ (9223372036854775807 < Y.length + P.length) := by omega
                      have HE : Hid (str Y ++ str P = str (Y ++ P) ∧ Y ++ P = X ++ joinQ (s.take (0 + 1))) := ⟨str_append _ _, by rw [HJT.out, HY.out]; try simp⟩
                      go_wp2_with (go_at_call 29; refine (cx _).mono ?_; rintro e w4 ⟨rfl, rfl⟩; dsimp only)
                      go_roundw
                      case rel => exact ⟨1, Y ++ P, by omega, by go_num, by first | rfl | (rw [HE.out.1]; done) | (rw [← HE.out.1]; done) | (rw [← HE.out.1]; rfl), HE.out.2, _, rfl⟩
                      case measure => simp [intOf]; omega
                    · have hj1 : (0 : Int) < (j : Int) := by omega
                      have kk1 : ¬ (9223372036854775807 < Y.length + 1) := by omega
                      have kk2 : ¬ (9223372036854775807 < Y.length + 1 + P.length) := by omega
                      have HE : Hid (str Y ++ { data := #[124] } ++ str P = str (Y ++ (124 :: P)) ∧ Y ++ (124 :: P) = X ++ joinQ (s.take (j + 1))) := ⟨by show str Y ++ str [124] ++ str P = _; rw [str_append, str_append, List.append_assoc]; rfl, by rw [HJT.out, HY.out, if_neg hj0]; simp⟩
                      go_wp2_with (go_at_call 29; refine (cx _).mono ?_; rintro e w4 ⟨rfl, rfl⟩; dsimp only)
                      go_roundw
                      case rel => exact ⟨j + 1, Y ++ (124 :: P), by omega, by go_num, by first | rfl | (rw [HE.out.1]; done) | (rw [← HE.out.1]; done) | (rw [← HE.out.1]; rfl), HE.out.2, _, rfl⟩
                      case measure => simp [intOf]; omega
                  · obtain rfl : j = s.length := by omega
                    have HE : Hid (Y = 91 :: partsM (ms.take (i + 1))) := by
                      show _ = _
                      have := HY.out
                      rw [List.take_length, HX.out.2.2.1] at this
                      exact this
                    have HBE : Hid (Below w.heap.size w (wb.drewN q)) := below_drewN (hb.trans (HBC.out.mono hsz)) q
                    go_wp2_with fail
                    go_roundw
                    case rel => exact ⟨i + 1, Y, by omega, by go_num, rfl, HE.out, HBE.out⟩
                    case measure => simp [intOf]; omega
          · obtain rfl : i = ms.length := by omega
            have k1 : ¬ (9223372036854775807 < L.length + 1) := by omega
            have HC : Hid (str L ++ { data := #[93] } = str R) := by
              show str L ++ str [93] = _
              rw [str_append, HL.out, List.take_length, ← HR.out]; rfl
            go_wp2_with fail
            go_ret2
            exact ⟨by rw [← HC.out]; rfl, hb⟩
end Go.Proofs.YtopnnhjfcfhihaaDoor
