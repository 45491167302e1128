/-
  Layer 2 (rice): the document's own reader.
-/
import Derived.Test.YteaelcimlmckjaaRiceRd
namespace Go.Proofs.Yteaelcimlmckjaa
open Go.RowKit Go.Deep
attribute [local go_sem] str_size str_append str_toList str_get str_extract
set_option linter.unusedVariables false
set_option linter.unusedSimpArgs false

theorem refRead_c (s : List UInt8) (w : World) :
    Calls Try.prog 36 #[.string (str s)] w fun e w' => e = .returned (.pointer (some ⟨w.heap.size, 0, none⟩)) ∧ w' = w.alloc (.cells #[.string (str s), .int .i64 ((0 : Nat) : Int)] 82) := by
  go_enter Try.func36, Try.ntmps36
  go_wp2
  go_ret
  exact ⟨rfl, rfl⟩
theorem refLeft_c (p : Nat) (s : List UInt8) (a : Nat) (w : World) (hs : s.length ≤ 281474976710656) (ha : a ≤ 8 * s.length + 1) (hR : IsR 82 p s a w) :
    Calls Try.prog 50 #[.pointer (some ⟨p, 0, none⟩)] w fun e w' => e = .returned (.int .i64 ((8 * s.length : Int) - a)) ∧ w' = w.drew := by
  obtain ⟨hc0, hc1, hf0, hf1⟩ := hR.cells
  go_enter Try.func50, Try.ntmps50
  go_wp2_with fail
  go_region
  go_wp2
  go_ret
  exact ⟨rfl, rfl⟩
theorem bit_val (s : List UInt8) (a j d : Nat) (hj : j < s.length) (h1 : j = a / 8) (h2 : d = 7 - a % 8) : ((s[j].toNat : Int) / 2 ^ d % 2) = (nextB s a 1 : Int) := by
  have ha : a < (bitsOf s).length := by rw [bitsOf_length]; omega
  have hb := bitsOf_get s a (by omega)
  rw [List.getElem?_eq_getElem ha] at hb
  injection hb with hb
  have e : nextB s a 1 = ((bitsOf s)[a]).toNat := by
    have h := nextB_one s a 0 (by rw [rest_length]; rw [bitsOf_length] at ha; omega)
    rw [Nat.add_zero] at h
    rw [h]
    unfold rest
    rw [List.getElem_drop]
    rfl
  subst h1 h2
  rw [e, hb, Nat.testBit_eq_decide_div_mod_eq]
  rw [div_int]
  rcases Nat.mod_two_eq_zero_or_one (s[a / 8].toNat / 2 ^ (7 - a % 8)) with h | h
  · have e : (((s[a / 8].toNat / 2 ^ (7 - a % 8) : Nat) : Int) % 2) = 0 := by omega
    rw [e, h]; rfl
  · have e : (((s[a / 8].toNat / 2 ^ (7 - a % 8) : Nat) : Int) % 2) = 1 := by omega
    rw [e, h]; rfl
theorem refBit_c (p : Nat) (s : List UInt8) (a at_ : Nat) (w : World) (hs : s.length ≤ 281474976710656) (ha : at_ < 8 * s.length) (hR : IsR 82 p s a w) :
    Calls Try.prog 51 #[.pointer (some ⟨p, 0, none⟩), .int .i64 at_] w fun e w' => e = .returned (.int .u64 (nextB s at_ 1)) ∧ w = w' := by
  obtain ⟨hc0, hc1, hf0, hf1⟩ := hR.cells
  obtain ⟨j, hj⟩ : ∃ j, j = at_ / 8 := ⟨_, rfl⟩
  obtain ⟨u, hu⟩ : ∃ u, u = at_ % 8 := ⟨_, rfl⟩
  obtain ⟨d, hd⟩ : ∃ d, d = 7 - u := ⟨_, rfl⟩
  have eq1 : (at_ : Int) / 8 = (j : Int) := by omega
  have eq2 : (at_ : Int) % 8 = (u : Int) := by omega
  have eq3 : 7 - (u : Int) = (d : Int) := by omega
  have hjs : j < s.length := by omega
  have hv := bit_val s at_ j d hjs hj (by omega)
  have hQ := s[j].toNat_lt
  have hu8 : u < 8 := by omega
  have hd8 : d < 8 := by omega
  have hal : at_ ≤ 2251799813685248 := by omega
  obtain ⟨b, hb⟩ : ∃ b, nextB s at_ 1 = b := ⟨_, rfl⟩
  have hq := div_int s[j].toNat d
  obtain ⟨q, hqe⟩ : ∃ q, s[j].toNat / 2 ^ d = q := ⟨_, rfl⟩
  have hql : q < 256 := by rw [← hqe]; exact Nat.lt_of_le_of_lt (Nat.div_le_self _ _) hQ
  rw [hqe] at hq
  rw [hb, hq] at hv
  rw [hb]
  have HV := Lib.hid hv
  clear hj hu hd hb hqe hv
  go_enter Try.func51, Try.ntmps51
  go_wp2_with fail
  go_ret
  exact ⟨congrArg (fun x => Ending.returned (.int .u64 x)) HV.out, rfl⟩
set_option maxRecDepth 100000 in
theorem refGet_c (p : Nat) (s : List UInt8) (a : Nat) (b : Int) (w : World) (hs : s.length ≤ 281474976710656) (ha : a ≤ 8 * s.length) (hR : IsR 82 p s a w) :
    Calls Try.prog 52 #[.pointer (some ⟨p, 0, none⟩), .int .i64 b] w fun e w' => e = .returned (.tuple #[.int .u64 (getV s a b), .int .i64 (getE s a b)]) ∧ IsR 82 p s (getA s a b) w' ∧ Keeps [p] w w' := by
  by_cases h0 : b < 0 ∨ 64 < b
  · obtain ⟨e1, e2, e3⟩ := get_arg (s := s) (a := a) h0
    rw [e1, e2, e3]
    clear e1 e2 e3
    rcases h0 with h0 | h0
    all_goals
      go_enter Try.func52, Try.ntmps52
      go_wp2_with fail
      go_ret2
      exact ⟨rfl, hR, Keeps.refl _ _⟩
  · obtain ⟨k, rfl⟩ : ∃ k : Nat, b = k := ⟨b.toNat, by omega⟩
    have hleft := refLeft_c p s a w hs (by omega) hR
    obtain ⟨x, hx⟩ : ∃ x : Nat, x = 8 * s.length - a := ⟨_, rfl⟩
    have hxx : (8 * s.length : Int) - a = (x : Int) := by omega
    rw [hxx] at hleft
    have hb1 : decide ((k : Int) < 0) = false := by simp
    have hb2 : decide (64 < (k : Int)) = false := by simp; omega
    have HL := Lib.hid hleft
    clear hleft hxx
    by_cases h1 : 8 * s.length < a + k
    · obtain ⟨e1, e2, e3⟩ := get_short (by omega) h1
      rw [e1, e2, e3]
      have hxk : x < k := by omega
      clear e1 e2 e3 hx
      go_enter Try.func52, Try.ntmps52
      go_wp2_with fail
      refine HL.out.mono ?_
      rintro e w' ⟨rfl, rfl⟩
      go_wp2_with fail
      go_ret2
      exact ⟨rfl, hR, (Keeps.refl _ _).drew⟩
    · obtain ⟨e1, e2, e3⟩ := get_ok (s := s) (a := a) (b := k) (by omega) (by omega)
      rw [e1, e2, e3]
      have hxk : k ≤ x := by omega
      have hb3 : decide (x < k) = false := by simp; omega
      obtain ⟨hc0, hc1, hf0, hf1⟩ := hR.cells
      have hal : a ≤ 2251799813685248 := by omega
      have hak : a + k ≤ 8 * s.length := by omega
      have HX := Lib.hid hak
      clear hak e1 e2 e3 hx h1
      go_enter Try.func52, Try.ntmps52
      go_wp2_with fail
      refine HL.out.mono ?_
      rintro e w' ⟨rfl, rfl⟩
      go_wp2_with fail
      go_loop [6, 7] (fun n c => ∃ i : Nat, i ≤ k ∧ c = .int .i64 i ∧ n = .int .u64 (nextB s a i)) (fun _ c => (k - intOf c).toNat)
      case atStart => exact ⟨0, Nat.zero_le _, rfl, by simp [nextB_zero]⟩
      case round =>
        obtain ⟨i, hi, rfl, rfl⟩ := hrel
        by_cases hlt : i < k
        · have hax := HX.out
          have hadd := nextB_add s a i 1 (by omega)
          have h1 := nextB_lt s a i
          have h2 := nextB_lt s (a + i) 1
          have h3 : 2 ^ i ≤ 2 ^ 63 := Nat.pow_le_pow_right (by omega) (by omega)
          obtain ⟨n, hn⟩ : ∃ n, nextB s a i = n := ⟨_, rfl⟩
          obtain ⟨m, hm⟩ : ∃ m, nextB s (a + i) 1 = m := ⟨_, rfl⟩
          rw [hn] at hadd h1 ⊢
          have hn63 : n < 9223372036854775808 := by omega
          have hm2 : m < 2 := by omega
          have HA := Lib.hid hadd
          have HM := Lib.hid hm
          clear hadd h1 h2 h3 hax hn hm
          go_wp2_with fail
          refine (refBit_c p s a (a + i) _ hs (by have := HX.out; omega) (show IsR _ p s a w.drew from hR)).mono ?_
          rintro e w' ⟨rfl, rfl⟩
          rw [HM.out]
          go_wp2_with fail
          go_round
          case rel => exact ⟨i + 1, by omega, by go_num, by rw [HA.out, HM.out]; go_num⟩
          case measure => simp [intOf]; omega
        · obtain rfl : i = k := by omega
          go_wp2_with fail
          go_ret2
          exact ⟨rfl, IsR.drew (hR.moved (by omega)), ((Keeps.refl [p] w).setCell (p := ⟨p, 1, none⟩) (.inl (by simp)) _).drew⟩
theorem IsR.put {t : TypeId} {p : Nat} {s : List UInt8} {a b : Nat} {w : World} (h : IsR t p s a w) : IsR t p s b (w.setCell ⟨p, 1, none⟩ (.int .i64 (b : Int))) := h.moved rfl
set_option maxRecDepth 100000 in
theorem refRice_rd_c (p : Nat) (s : List UInt8) (a : Nat) (b : Int) (w : World) (hs : s.length ≤ 281474976710656) (ha : a ≤ 8 * s.length) (hR : IsR 82 p s a w) :
    Calls Try.prog 37 #[.pointer (some ⟨p, 0, none⟩), .int .i64 b] w fun e w' => e = .returned (.tuple #[.int .u64 (decV (rest s a) b), .int .i64 (decE (rest s a) b)]) ∧ IsR 82 p s (a + decN (rest s a) b) w' ∧ Keeps [p] w w' := by
  have hlen := rest_length s a
  by_cases h0 : b < 0 ∨ 40 < b
  · have e1 : decE (rest s a) b = 1 := by unfold decE; rw [if_pos h0]
    obtain ⟨e2, e3⟩ := dec_bad (l := rest s a) (k := b) (by omega)
    rw [e1, e2, e3]
    clear e1 e2 e3 hlen
    rcases h0 with h0 | h0
    all_goals
      go_enter Try.func37, Try.ntmps37
      go_wp2_with fail
      go_ret2
      exact ⟨rfl, hR, Keeps.refl _ _⟩
  · obtain ⟨k, rfl⟩ : ∃ k : Nat, b = k := ⟨b.toNat, by omega⟩
    have hb1 : decide ((k : Int) < 0) = false := by simp
    have hb2 : decide (40 < (k : Int)) = false := by simp; omega
    have hone := nextB_one s a
    obtain ⟨l, hl⟩ : ∃ l, rest s a = l := ⟨_, rfl⟩
    have hrd := rest_drop s a
    rw [hl] at hone hlen hrd
    rw [hl]
    obtain ⟨n0, hn0⟩ : ∃ n0, n0 = l.length := ⟨_, rfl⟩
    obtain ⟨c0, c1, f0, f1⟩ := hR.cells
    have hal : a ≤ 2251799813685248 := by omega
    have HL := Lib.hid hl
    have HO : Hid (∀ (i : Nat) (h : i < l.length), nextB s (a + i) 1 = l[i].toNat) := hone
    have HN := Lib.hid (And.intro hlen hn0)
    have HD : Hid (∀ i, l.drop i = rest s (a + i)) := hrd
    clear hl hone hlen hrd hn0
    go_enter Try.func37, Try.ntmps37
    go_wp2_with fail
    go_loopw [7] (fun c wr => ∃ i : Nat, i ≤ 24 ∧ c = .int .u64 i ∧ Hid (i ≤ l.length ∧ l.take i = List.replicate i true) ∧ IsR 82 p s (a + i) wr ∧ Keeps [p] w wr) (fun c _ => 24 - (intOf c).toNat)
    case atStart => exact ⟨0, by omega, rfl, ⟨Nat.zero_le _, by simp⟩, hR, Keeps.refl _ _⟩
    case round =>
      obtain ⟨i, hi, rfl, hall, hR', hK⟩ := hrel
      obtain ⟨d0, d1, e0, e1⟩ := hR'.cells
      by_cases h24 : i = 24
      · subst h24
        have h1 := ones_full hall.out.2
        obtain ⟨w1, w2, w3⟩ := dec_whole (k := k) (by omega) h1
        have hd : l.drop 24 = rest s (a + 24) := HD.out 24
        have hll := hall.out.1
        have hn := HN.out.1
        have hrl := rest_length s (a + 24)
        rw [hd] at w1 w2 w3
        by_cases hsh : 8 * s.length < a + 24 + 64
        · have we : wholeE (rest s (a + 24)) k = 10 := by unfold wholeE; rw [if_pos (by omega)]
          rw [we] at w1
          obtain ⟨v1, v2⟩ := dec_bad (l := l) (k := k) (by omega)
          obtain ⟨g1, g2, g3⟩ := get_short (s := s) (a := a + 24) (b := 64) (by omega) hsh
          have E := Lib.hid (And.intro w1 (And.intro v1 v2))
          have hget := refGet_c p s (a + 24) 64 wr hs (by omega) hR'
          rw [show getE s (a + 24) 64 = 10 from g1, show getV s (a + 24) 64 = 0 from g2, show getA s (a + 24) 64 = a + 24 from g3] at hget
          have HG := Lib.hid hget
          clear h1 w1 w2 w3 hd hll hn hrl hsh we v1 v2 g1 g2 g3 hget
          go_wp2_with fail
          refine HG.out.mono ?_
          rintro e w1 ⟨rfl, hR1, hK1⟩
          obtain ⟨x0, x1, y0, y1⟩ := hR1.cells
          go_wp2_with fail
          go_ret2
          rw [E.out.1, E.out.2.1, E.out.2.2]
          exact ⟨rfl, hR1.put, (hK.trans hK1 (fun g hg => .inl hg)).setCell (p := ⟨p, 1, none⟩) (.inl (by simp)) _⟩
        · obtain ⟨g1, g2, g3⟩ := get_ok (s := s) (a := a + 24) (b := 64) (by omega) (by omega)
          have hx : nextB s (a + 24) 64 < 18446744073709551616 := nextB_lt s (a + 24) 64
          have hnx : nextB s (a + 24) 64 = num ((rest s (a + 24)).take 64) := rfl
          have hget := refGet_c p s (a + 24) 64 wr hs (by omega) hR'
          rw [show getE s (a + 24) 64 = 0 from g1, show getV s (a + 24) 64 = nextB s (a + 24) 64 from g2, show getA s (a + 24) 64 = a + 24 + 64 from g3] at hget
          obtain ⟨x, hxe⟩ : ∃ x, nextB s (a + 24) 64 = x := ⟨_, rfl⟩
          rw [hxe] at hx hnx hget
          have hq := div_int x k
          obtain ⟨q, hqe⟩ : ∃ q, x / 2 ^ k = q := ⟨_, rfl⟩
          rw [hqe] at hq
          have HG := Lib.hid hget
          by_cases hq24 : q < 24
          · have we : wholeE (rest s (a + 24)) k = 11 := by unfold wholeE; rw [if_neg (by omega), if_pos (by rw [← hnx, hqe]; exact hq24)]
            rw [we] at w1
            obtain ⟨v1, v2⟩ := dec_bad (l := l) (k := k) (by omega)
            have E := Lib.hid (And.intro w1 (And.intro v1 v2))
            clear h1 w1 w2 w3 hd hll hn hrl hsh we v1 v2 g1 g2 g3 hget hnx hxe hqe
            go_wp2_with fail
            refine HG.out.mono ?_
            rintro e w1 ⟨rfl, hR1, hK1⟩
            obtain ⟨x0, x1, y0, y1⟩ := hR1.cells
            go_wp2_with fail
            go_ret2
            rw [E.out.1, E.out.2.1, E.out.2.2]
            exact ⟨rfl, hR1.put, (hK.trans hK1 (fun g hg => .inl hg)).setCell (p := ⟨p, 1, none⟩) (.inl (by simp)) _⟩
          · have we : wholeE (rest s (a + 24)) k = 0 := by unfold wholeE; rw [if_neg (by omega), if_neg (by rw [← hnx, hqe]; exact hq24)]
            have wv : wholeV (rest s (a + 24)) k = x := by unfold wholeV; rw [if_pos we, ← hnx]
            have w4 := w3 we
            rw [we] at w1
            rw [wv] at w2
            have E := Lib.hid (And.intro w1 (And.intro w2 w4))
            clear h1 w1 w2 w3 w4 hd hll hn hrl hsh we wv g1 g2 g3 hget hnx hxe hqe
            go_wp2_with fail
            refine HG.out.mono ?_
            rintro e w1 ⟨rfl, hR1, hK1⟩
            obtain ⟨x0, x1, y0, y1⟩ := hR1.cells
            go_wp2_with fail
            go_ret2
            rw [E.out.1, E.out.2.1, E.out.2.2]
            exact ⟨rfl, hR1, hK.trans hK1 (fun g hg => .inl hg)⟩
      · by_cases hend : i = l.length
        · have h1 := ones_end hall.out.2 hend.symm hi
          have hn := HN.out.1
          have he : decE l k = 10 := by unfold decE; rw [if_neg h0, if_neg (by omega), if_pos (by omega)]
          obtain ⟨v1, v2⟩ := dec_bad (l := l) (k := k) (by omega)
          have E := Lib.hid (And.intro he (And.intro v1 v2))
          have hleft := refLeft_c p s (a + i) wr hs (by omega) hR'
          have hxx : (8 * s.length : Int) - ((a + i : Nat) : Int) = 0 := by omega
          rw [hxx] at hleft
          have hleft2 := refLeft_c p s (a + i + 1) (wr.setCell ⟨p, 1, none⟩ (.int .i64 ((a : Int) + i + 1))).drew hs (by omega) (IsR.drew (hR'.moved (by omega)))
          have hxx2 : (8 * s.length : Int) - ((a + i + 1 : Nat) : Int) = -1 := by omega
          rw [hxx2] at hleft2
          have HLF := Lib.hid hleft
          have HLG := Lib.hid hleft2
          have hi24 : i < 24 := by omega
          clear h1 hn he v1 v2 hend hleft hxx hleft2 hxx2 h24
          go_wp2_with fail
          refine HLF.out.mono ?_
          rintro e w' ⟨rfl, rfl⟩
          go_wp2_with fail
          refine HLG.out.mono ?_
          rintro e w' ⟨rfl, rfl⟩
          go_wp2_with fail
          go_ret2
          rw [E.out.1, E.out.2.1, E.out.2.2]
          refine ⟨rfl, IsR.drew (IsR.drew (IsR.put (hR'.moved (b := a + i + 1) (by omega)))), ?_⟩
          exact (((hK.setCell (p := ⟨p, 1, none⟩) (.inl (by simp)) _).setCell (p := ⟨p, 1, none⟩) (.inl (by simp)) _).drew).drew
        · have hlt : i < l.length := by have := hall.out.1; omega
          have hn := HN.out.1
          have hai : a + i + 1 ≤ 8 * s.length := by omega
          have hleft := refLeft_c p s (a + i) wr hs (by omega) hR'
          obtain ⟨x, hx⟩ : ∃ x : Nat, x = 8 * s.length - (a + i) := ⟨_, rfl⟩
          have hxx : (8 * s.length : Int) - ((a + i : Nat) : Int) = (x : Int) := by omega
          rw [hxx] at hleft
          have hx0 : 0 < x := by omega
          have hi24 : i < 24 := by omega
          have HLF := Lib.hid hleft
          have hbit := refBit_c p s (a + i) (a + i) wr.drew hs (by omega) hR'
          rw [HO.out i hlt] at hbit
          cases hb : l[i] with
          | true =>
            have hnx := ones_next hall.out.2 (by rw [List.getElem?_eq_getElem hlt, hb])
            rw [hb] at hbit
            have HB := Lib.hid hbit
            have HH : Hid (i + 1 ≤ l.length ∧ l.take (i + 1) = List.replicate (i + 1) true) := ⟨by omega, hnx⟩
            clear hbit hnx hb hn h24 hend hleft hx hxx
            go_wp2_with fail
            refine HLF.out.mono ?_
            rintro e w' ⟨rfl, rfl⟩
            go_wp2_with fail
            refine HB.out.mono ?_
            rintro e w' ⟨rfl, rfl⟩
            go_wp2_with fail
            go_roundw
            case rel => exact ⟨i + 1, by omega, by go_num, HH, IsR.drew (hR'.moved (by omega)), (hK.setCell (p := ⟨p, 1, none⟩) (.inl (by simp)) _).drew⟩
            case measure => simp [intOf] <;> omega
          | false =>
            have hst := ones_stop hall.out.2 (by rw [List.getElem?_eq_getElem hlt, hb]) (by omega)
            obtain ⟨dd1, dd2⟩ := dec_low (k := k) (by omega) (by omega : leadB l ≠ 24) (by omega)
            rw [hst] at dd1 dd2
            rw [hb] at hbit
            have HB := Lib.hid hbit
            obtain ⟨y, hy⟩ : ∃ y : Nat, y = 8 * s.length - (a + i + 1) := ⟨_, rfl⟩
            have hleft2 := refLeft_c p s (a + i + 1) (wr.setCell ⟨p, 1, none⟩ (.int .i64 ((a : Int) + i + 1))).drew hs (by omega) (IsR.drew (hR'.moved (by omega)))
            have hxx2 : (8 * s.length : Int) - ((a + i + 1 : Nat) : Int) = (y : Int) := by omega
            rw [hxx2] at hleft2
            have HLG := Lib.hid hleft2
            have hget := refGet_c p s (a + i + 1) k (wr.setCell ⟨p, 1, none⟩ (.int .i64 ((a : Int) + i + 1))).drew.drew hs (by omega) (IsR.drew (IsR.drew (hR'.moved (by omega))))
            have hKw : Keeps [p] w (wr.setCell ⟨p, 1, none⟩ (.int .i64 ((a : Int) + i + 1))).drew.drew := ((hK.setCell (p := ⟨p, 1, none⟩) (.inl (by simp)) _).drew).drew
            by_cases hsh : 8 * s.length < a + i + 1 + k
            · have he := dd1 (by omega)
              obtain ⟨v1, v2⟩ := dec_bad (l := l) (k := k) (by omega)
              have E := Lib.hid (And.intro he (And.intro v1 v2))
              obtain ⟨g1, g2, g3⟩ := get_short (s := s) (a := a + i + 1) (b := k) (by omega) hsh
              rw [g1, g2, g3] at hget
              have HG := Lib.hid hget
              clear hbit hb hn h24 hend hleft hx hxx hst dd1 dd2 hy hleft2 hxx2 hget hsh he v1 v2 g1 g2 g3
              go_wp2_with fail
              refine HLF.out.mono ?_
              rintro e w' ⟨rfl, rfl⟩
              go_wp2_with fail
              refine HB.out.mono ?_
              rintro e w' ⟨rfl, rfl⟩
              go_wp2_with fail
              refine HLG.out.mono ?_
              rintro e w' ⟨rfl, rfl⟩
              go_wp2_with fail
              refine HG.out.mono ?_
              rintro e w1 ⟨rfl, hR1, hK1⟩
              obtain ⟨x0, x1, y0, y1⟩ := hR1.cells
              go_wp2_with fail
              go_ret2
              rw [E.out.1, E.out.2.1, E.out.2.2]
              exact ⟨rfl, hR1.put, (hKw.trans hK1 (fun g hg => .inl hg)).setCell (p := ⟨p, 1, none⟩) (.inl (by simp)) _⟩
            · obtain ⟨e1, e2, e3⟩ := dd2 (by omega)
              obtain ⟨g1, g2, g3⟩ := get_ok (s := s) (a := a + i + 1) (b := k) (by omega) (by omega)
              rw [g1, g2, g3] at hget
              have hdd : l.drop (i + 1) = rest s (a + i + 1) := HD.out (i + 1)
              have hyk := nextB_lt s (a + i + 1) k
              have hp40 : 2 ^ k ≤ 2 ^ 40 := Nat.pow_le_pow_right (by omega) (by omega)
              rw [hdd, ← nextB_rest] at e2
              obtain ⟨z, hz⟩ : ∃ z, nextB s (a + i + 1) k = z := ⟨_, rfl⟩
              rw [hz] at hget e2 hyk
              obtain ⟨t, ht⟩ : ∃ t, i * 2 ^ k = t := ⟨_, rfl⟩
              have htl : t ≤ 25288767438848 := by
                have : i * 2 ^ k ≤ 23 * 2 ^ k := Nat.mul_le_mul_right _ (by omega)
                omega
              have hzl : z < 1099511627776 := by omega
              have heq : IntKind.u64.wrap ((i : Int) * 2 ^ k) = (t : Int) := by
                have e : ((i : Int) * 2 ^ k) = ((i * 2 ^ k : Nat) : Int) := by simp
                rw [e, ht, IntKind.wrap_u64]; omega
              rw [ht] at e2
              have E := Lib.hid (And.intro e1 (And.intro e2 e3))
              have HG := Lib.hid hget
              clear hbit hb hn h24 hend hleft hx hxx hst dd1 dd2 hy hleft2 hxx2 hget hsh e1 e2 e3 g1 g2 g3 hdd hyk hp40 hz ht
              obtain ⟨e0, e1⟩ : wr.frozen? ⟨p, 0, none⟩ = false ∧ wr.frozen? ⟨p, 1, none⟩ = false := ⟨hR'.cells.2.2.1, hR'.cells.2.2.2⟩
              go_wp2_with fail
              refine HLF.out.mono ?_
              rintro e w' ⟨rfl, rfl⟩
              go_wp2_with fail
              refine HB.out.mono ?_
              rintro e w' ⟨rfl, rfl⟩
              go_wp2_with fail
              refine HLG.out.mono ?_
              rintro e w' ⟨rfl, rfl⟩
              go_wp2_with fail
              refine HG.out.mono ?_
              rintro e w1 ⟨rfl, hR1, hK1⟩
              obtain ⟨x0, x1, y0, y1⟩ := hR1.cells
              go_wp2_with fail
              go_ret2
              rw [E.out.1, E.out.2.1, E.out.2.2]
              refine ⟨rfl, ?_, hKw.trans hK1 (fun g hg => .inl hg)⟩
              rw [show a + (i + 1 + k) = a + i + 1 + k by omega]; exact hR1
end Go.Proofs.Yteaelcimlmckjaa
