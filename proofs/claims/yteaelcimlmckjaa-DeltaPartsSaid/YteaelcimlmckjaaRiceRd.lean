/-
  Layer 2 (rice): what each call of the program's reader returns, and what becomes of its memory.
-/
import Derived.Test.YteaelcimlmckjaaRice
namespace Go.Proofs.Yteaelcimlmckjaa
open Go.RowKit Go.Deep
attribute [local go_sem] str_size str_append str_toList str_get str_extract
set_option linter.unusedVariables false
set_option linter.unusedSimpArgs false

/-- Block p is a reader over s, at bits of it taken. -/
def IsR (t : TypeId) (p : Nat) (s : List UInt8) (a : Nat) (w : World) : Prop := w.heap[p]? = some (.cells #[.string (str s), .int .i64 (a : Int)] t (0, 0))
theorem IsR.cells {t : TypeId} {p : Nat} {s : List UInt8} {a : Nat} {w : World} (h : IsR t p s a w) :
    w.cell? ⟨p, 0, none⟩ = some (.string (str s)) ∧ w.cell? ⟨p, 1, none⟩ = some (.int .i64 (a : Int)) ∧ w.frozen? ⟨p, 0, none⟩ = false ∧ w.frozen? ⟨p, 1, none⟩ = false :=
  ⟨blk_cell h 0, blk_cell h 1, blk_free h 0, blk_free h 1⟩
theorem IsR.moved {t : TypeId} {p : Nat} {s : List UInt8} {a : Nat} {w : World} (h : IsR t p s a w) {x : Int} {b : Nat} (hx : x = b) : IsR t p s b (w.setCell ⟨p, 1, none⟩ (.int .i64 x)) := by
  have := blk_set h 1 (.int .i64 x)
  unfold IsR
  rw [this, hx]; rfl
theorem IsR.copied {t : TypeId} {p : Nat} {s : List UInt8} {a b : Nat} {w : World} (h : IsR t p s a w) : IsR t p s b ((w.setCell ⟨p, 0, none⟩ (.string (str s))).setCell ⟨p, 1, none⟩ (.int .i64 (b : Int))) := by
  have h1 := blk_set h 0 (.string (str s))
  have h2 := blk_set h1 1 (.int .i64 (b : Int))
  exact h2
theorem IsR.new (w : World) (t : TypeId) (s : List UInt8) (a : Nat) : IsR t w.heap.size s a (w.alloc (.cells #[.string (str s), .int .i64 (a : Int)] t)) := blk_new _ _
theorem IsR.drew {t : TypeId} {p : Nat} {s : List UInt8} {a : Nat} {w : World} (h : IsR t p s a w) : IsR t p s a w.drew := h
theorem IsR.lt {t : TypeId} {p : Nat} {s : List UInt8} {a : Nat} {w : World} (h : IsR t p s a w) : p < w.heap.size := lt_of_block h
theorem IsR.keeps {t : TypeId} {p : Nat} {s : List UInt8} {a : Nat} {w w' : World} {F : List Nat} (h : IsR t p s a w) (k : Keeps F w w') (hp : p ∉ F) : IsR t p s a w' := k.block h hp
theorem part_val (s : List UInt8) (t c u j d : Nat) (hjs : j < s.length) (hc : t % 8 + c ≤ 8) (hu : u = t % 8) (hj : j = t / 8) (hd : d = 8 - c) : ((s[j].toNat : Int) * 2 ^ u % 256 / 2 ^ d) = (nextB s t c : Int) := by
  subst hu hj hd
  rw [nextB_part s t c hjs hc, Nat.shiftRight_eq_div_pow, Nat.shiftLeft_eq]
  simp
theorem or_value (x y c k v : Nat) (h : v = x * 2 ^ c + y) (hy : y < 2 ^ c) (hv : v < 2 ^ k) (hk : k ≤ 64) : bits .or .u64 (IntKind.u64.wrap ((x : Int) * 2 ^ c)) (y : Int) = (v : Int) := by
  have h64 : v < 2 ^ 64 := Nat.lt_of_lt_of_le hv (Nat.pow_le_pow_right (by omega) hk)
  have e : ((x : Int) * 2 ^ c) = ((x * 2 ^ c : Nat) : Int) := by simp
  have h2 : x * 2 ^ c < 18446744073709551616 := by omega
  rw [e, IntKind.wrap_u64, show (((x * 2 ^ c : Nat) : Int) % 18446744073709551616) = ((x * 2 ^ c : Nat) : Int) by omega, u64_or_nat _ _ h2 (by omega), h, ← Nat.shiftLeft_eq, or_low _ _ _ hy, Nat.shiftLeft_eq]
set_option maxRecDepth 100000 in
theorem take_c (p : Nat) (s : List UInt8) (a b : Nat) (w : World) (hs : s.length ≤ 281474976710656) (hb : b ≤ 64) (hab : a + b ≤ 8 * s.length) (hR : IsR 94 p s a w) :
    Calls Try.prog 71 #[.pointer (some ⟨p, 0, none⟩), .int .i64 b] w fun e w' => e = .returned (.int .u64 (nextB s a b)) ∧ IsR 94 p s (a + b) w' ∧ Keeps [p] w w' := by
  go_enter Try.func71, Try.ntmps71
  go_wp2_with fail
  go_loopw [1, 5] (fun c n wr => ∃ i : Nat, i ≤ b ∧ c = .int .i64 ((b - i : Nat) : Int) ∧ n = .int .u64 (nextB s a i) ∧ IsR 94 p s (a + i) wr ∧ Keeps [p] w wr) (fun c _ _ => (intOf c).toNat)
  case atStart => exact ⟨0, Nat.zero_le _, by simp, by simp [nextB_zero], hR, Keeps.refl _ _⟩
  case round =>
    obtain ⟨i, hi, rfl, rfl, hR', hK⟩ := hrel
    obtain ⟨hc0, hc1, hf0, hf1⟩ := hR'.cells
    by_cases hib : i = b
    · subst hib
      rw [Nat.sub_self]
      go_wp2_with fail
      go_ret
      exact ⟨rfl, hR', hK⟩
    · obtain ⟨t, ht⟩ : ∃ t, t = a + i := ⟨_, rfl⟩
      obtain ⟨r, hr⟩ : ∃ r, r = b - i := ⟨_, rfl⟩
      obtain ⟨u, hu⟩ : ∃ u, u = t % 8 := ⟨_, rfl⟩
      obtain ⟨j, hj⟩ : ∃ j, j = t / 8 := ⟨_, rfl⟩
      obtain ⟨c, hc⟩ : ∃ c, c = min r (8 - u) := ⟨_, rfl⟩
      obtain ⟨d, hd⟩ : ∃ d, d = 8 - c := ⟨_, rfl⟩
      obtain ⟨r', hr'⟩ : ∃ r', r' = r - c := ⟨_, rfl⟩
      rw [← ht] at hc1 hR'
      rw [← hr]
      have hjs : j < s.length := by omega
      have htl : t ≤ 2251799813685248 := by omega
      have hr0 : 0 < r := by omega
      have hrl : r ≤ 64 := by omega
      have hu8 : u < 8 := by omega
      have hc8 : c ≤ 8 := by omega
      have hd8 : d < 8 := by omega
      have eq1 : (t : Int) % 8 = (u : Int) := by omega
      have eq2 : min (r : Int) (8 - (u : Int)) = (c : Int) := by omega
      have eq3 : (r : Int) - (c : Int) = (r' : Int) := by omega
      have eq4 : 8 - (c : Int) = (d : Int) := by omega
      have eq5 : (t : Int) / 8 = (j : Int) := by omega
      have hp := part_val s t c u j d hjs (by omega) hu hj hd
      have hadd := nextB_add s a i c (by omega)
      have hxl := nextB_lt s a i
      have hyl := nextB_lt s a (i + c)
      have hQ := s[j].toNat_lt
      have Q := Lib.hid (And.intro ht (And.intro hr (And.intro hc hr')))
      obtain ⟨x, hx⟩ : ∃ x, x = nextB s a i := ⟨_, rfl⟩
      obtain ⟨y, hy⟩ : ∃ y, y = nextB s t c := ⟨_, rfl⟩
      have hy8 : y < 256 := by
        rw [hy]; exact Nat.lt_of_lt_of_le (nextB_lt s t c) (show 2 ^ c ≤ 256 from Nat.pow_le_pow_right (n := 2) (by omega) hc8)
      rw [← hy] at hp
      rw [← hx]
      rw [← hx] at hxl
      have HX := Lib.hid (And.intro hx hy)
      have HA := Lib.hid hadd
      have HU := Lib.hid (And.intro hu (And.intro hj hd))
      clear hib hadd ht hr hu hj hc hd hr' hx hy
      go_wp2_with fail
      go_region
      go_wp2
      obtain ⟨q1, q2, q3, q4⟩ := Q.out
      obtain ⟨x1, x2⟩ := HX.out
      refine ⟨⟨i + c, by omega, by rw [show r' = b - (i + c) by omega], ?_, hR'.moved (by omega), (hK.setCell (p := ⟨p, 1, none⟩) (.inl (by simp)) _).drew⟩, by simp [intOf]; omega⟩
      rw [or_value x y c (i + c) (nextB s a (i + c)) (by rw [HA.out, x1, x2, q1]) (by rw [x2]; exact nextB_lt _ _ _) (nextB_lt _ _ _) (by omega)]
theorem left_c (p : Nat) (s : List UInt8) (a : Nat) (w : World) (hs : s.length ≤ 281474976710656) (ha : a ≤ 8 * s.length) (hR : IsR 94 p s a w) :
    Calls Try.prog 70 #[.pointer (some ⟨p, 0, none⟩)] w fun e w' => e = .returned (.int .i64 ((8 * s.length - a : Nat) : Int)) ∧ w' = w.drew := by
  obtain ⟨hc0, hc1, hf0, hf1⟩ := hR.cells
  go_enter Try.func70, Try.ntmps70
  go_wp2_with fail
  go_region
  go_wp2
  go_ret
  exact ⟨ret_int (by omega), rfl⟩
theorem get_c (p : Nat) (s : List UInt8) (a : Nat) (b : Int) (w : World) (hs : s.length ≤ 281474976710656) (ha : a ≤ 8 * s.length) (hR : IsR 94 p s a w) :
    Calls Try.prog 68 #[.pointer (some ⟨p, 0, none⟩), .int .i64 b] w fun e w' => e = .returned (.tuple #[.int .u64 (getV s a b), .int .i64 (getE s a b)]) ∧ IsR 94 p s (getA s a b) w' ∧ Keeps [p] w w' := by
  by_cases h0 : b < 0 ∨ 64 < b
  · obtain ⟨e1, e2, e3⟩ := get_arg (s := s) (a := a) h0
    rw [e1, e2, e3]
    clear e1 e2 e3
    go_enter Try.func68, Try.ntmps68
    go_wp2_with fail
    refine (mayCount_no b _ h0).mono ?_
    rintro e w' ⟨rfl, rfl⟩
    go_wp2_with fail
    go_ret2
    exact ⟨rfl, hR, Keeps.refl _ _⟩
  · obtain ⟨k, rfl⟩ : ∃ k : Nat, b = k := ⟨b.toNat, by omega⟩
    by_cases h1 : 8 * s.length < a + k
    · obtain ⟨e1, e2, e3⟩ := get_short (by omega) h1
      rw [e1, e2, e3]
      obtain ⟨x, hx⟩ : ∃ x, 8 * s.length - a = x := ⟨_, rfl⟩
      have hxk : x < k := by omega
      have HX := Lib.hid hx
      clear e1 e2 e3 hx
      go_enter Try.func68, Try.ntmps68
      go_wp2_with fail
      refine (mayCount_yes k _ (by omega) (by omega)).mono ?_
      rintro e w' ⟨rfl, rfl⟩
      go_wp2_with fail
      refine (left_c p s a _ hs ha hR).mono ?_
      rintro e w' ⟨rfl, rfl⟩
      rw [HX.out]
      go_wp2_with fail
      go_ret2
      exact ⟨rfl, hR, (Keeps.refl _ _).drew⟩
    · obtain ⟨e1, e2, e3⟩ := get_ok (s := s) (a := a) (b := k) (by omega) (by omega)
      rw [e1, e2, e3]
      obtain ⟨x, hx⟩ : ∃ x, 8 * s.length - a = x := ⟨_, rfl⟩
      have hxk : k ≤ x := by omega
      have HX := Lib.hid hx
      clear e1 e2 e3 hx
      go_enter Try.func68, Try.ntmps68
      go_wp2_with fail
      refine (mayCount_yes k _ (by omega) (by omega)).mono ?_
      rintro e w' ⟨rfl, rfl⟩
      go_wp2_with fail
      refine (left_c p s a _ hs ha hR).mono ?_
      rintro e w' ⟨rfl, rfl⟩
      rw [HX.out]
      go_wp2_with fail
      refine (take_c p s a k _ hs (by omega) (by omega) (show IsR _ p s a w.drew from hR)).mono ?_
      rintro e w1 ⟨rfl, hR1, hK1⟩
      go_wp2_with fail
      go_ret2
      exact ⟨rfl, hR1, hK1.of_drew⟩
/-- The reader behind a call: where it is, if the call told no error; its own block alone was written. -/
def Reached (t : TypeId) (p : Nat) (s : List UInt8) (er : Int) (a : Nat) (w w' : World) : Prop :=
  (∃ b, b ≤ 8 * s.length ∧ IsR t p s b w' ∧ (er = 0 → b = a)) ∧ Keeps [p] w w'
/-- The bits that are left. -/
def rest (s : List UInt8) (a : Nat) : List Bool := (bitsOf s).drop a
theorem rest_length (s : List UInt8) (a : Nat) : (rest s a).length = 8 * s.length - a := by unfold rest; rw [List.length_drop, bitsOf_length]
theorem rest_drop (s : List UInt8) (a b : Nat) : (rest s a).drop b = rest s (a + b) := by unfold rest; rw [List.drop_drop]
theorem nextB_rest (s : List UInt8) (a k : Nat) : nextB s a k = num ((rest s a).take k) := rfl
theorem nextB_one (s : List UInt8) (a i : Nat) (h : i < (rest s a).length) : nextB s (a + i) 1 = ((rest s a)[i]).toNat := by
  rw [nextB_rest, ← rest_drop, List.drop_eq_getElem_cons h, List.take_succ_cons, List.take_zero]
  simp [num]
set_option maxRecDepth 100000 in
theorem ones_c (p : Nat) (s : List UInt8) (a : Nat) (w : World) (hs : s.length ≤ 281474976710656) (ha : a ≤ 8 * s.length) (hR : IsR 94 p s a w) :
    Calls Try.prog 66 #[.pointer (some ⟨p, 0, none⟩)] w fun e w' => e = .returned (.tuple #[.int .u64 (onesV (rest s a)), .int .i64 (onesE (rest s a))]) ∧
      Reached 94 p s (onesE (rest s a)) (a + onesN (rest s a)) w w' := by
  have hlen := rest_length s a
  obtain ⟨l, hl⟩ : ∃ l, rest s a = l := ⟨_, rfl⟩
  have hone := nextB_one s a
  rw [hl] at hone hlen
  rw [hl]
  have HL := Lib.hid hl
  have HO : Hid (∀ (i : Nat) (h : i < l.length), nextB s (a + i) 1 = l[i].toNat) := hone
  have HN := Lib.hid hlen
  clear hl hone hlen
  go_enter Try.func66, Try.ntmps66
  go_wp2_with fail
  go_loopw [7] (fun c wr => ∃ i : Nat, i ≤ 24 ∧ c = .int .u64 i ∧ Hid (i ≤ l.length ∧ l.take i = List.replicate i true) ∧ IsR 94 p s (a + i) wr ∧ Keeps [p] w wr) (fun c _ => 24 - (intOf c).toNat)
  case atStart => exact ⟨0, by omega, rfl, ⟨Nat.zero_le _, by simp⟩, hR, Keeps.refl _ _⟩
  case round =>
    obtain ⟨i, hi, rfl, hall, hR', hK⟩ := hrel
    by_cases h24 : i = 24
    · subst h24
      have h1 := ones_full hall.out.2
      have e1 : onesE l = 0 := by unfold onesE; rw [if_neg (by omega)]
      have e2 : onesV l = 24 := by unfold onesV; rw [if_pos e1, h1]
      have e3 : onesN l = 24 := by unfold onesN; rw [if_pos h1]
      have E1 := Lib.hid e1
      have E2 := Lib.hid e2
      have E3 := Lib.hid e3
      clear e1 e2 e3 h1
      go_wp2_with fail
      go_ret2
      rw [E1.out, E2.out]
      have hle := hall.out.1
      have hn := HN.out
      exact ⟨rfl, ⟨_, by omega, hR', fun _ => by rw [E3.out]⟩, hK⟩
    · by_cases hend : i = l.length
      · have h1 := ones_end hall.out.2 hend.symm hi
        have e1 : onesE l = 10 := by unfold onesE; rw [if_pos (by omega)]
        have e2 : onesV l = 0 := by unfold onesV; rw [if_neg (by omega)]
        have E1 := Lib.hid e1
        have E2 := Lib.hid e2
        have hn := HN.out
        obtain ⟨g1, g2, g3⟩ := get_short (s := s) (a := a + i) (b := 1) (by omega) (by omega)
        have G := Lib.hid (And.intro g1 (And.intro g2 g3))
        have hai : a + i ≤ 8 * s.length := by omega
        clear e1 e2 h1 hend hn g1 g2 g3
        go_wp2_with fail
        refine (get_c p s (a + i) 1 _ hs hai hR').mono ?_
        rintro e w1 ⟨rfl, hR1, hK1⟩
        rw [show getE s (a + i) 1 = 10 from G.out.1, show getV s (a + i) 1 = 0 from G.out.2.1]
        go_wp2_with fail
        go_ret2
        rw [E1.out, E2.out]
        exact ⟨rfl, ⟨_, hai, (show getA s (a + i) 1 = a + i from G.out.2.2) ▸ hR1, fun h => absurd h (by decide)⟩, hK.trans hK1 (fun g hg => .inl hg)⟩
      · have hlt : i < l.length := by have := hall.out.1; omega
        have hn := HN.out
        have hai : a + i + 1 ≤ 8 * s.length := by omega
        obtain ⟨g1, g2, g3⟩ := get_ok (s := s) (a := a + i) (b := 1) (by omega) hai
        rw [HO.out i hlt] at g2
        cases hb : l[i] with
        | true =>
          have hnx := ones_next hall.out.2 (by rw [List.getElem?_eq_getElem hlt, hb])
          rw [hb] at g2
          have G := Lib.hid (And.intro g1 (And.intro g2 g3))
          have HH : Hid (i + 1 ≤ l.length ∧ l.take (i + 1) = List.replicate (i + 1) true) := ⟨by omega, hnx⟩
          have hi' : i < 24 := by omega
          clear g1 g2 g3 hnx hb hn h24 hend
          go_wp2_with fail
          refine (get_c p s (a + i) 1 _ hs (by omega) hR').mono ?_
          rintro e w1 ⟨rfl, hR1, hK1⟩
          rw [show getE s (a + i) 1 = 0 from G.out.1, show getV s (a + i) 1 = 1 from G.out.2.1]
          go_wp2_with fail
          go_roundw
          case rel => exact ⟨i + 1, by omega, by go_num, HH, (show getA s (a + i) 1 = a + i + 1 from G.out.2.2) ▸ hR1, hK.trans hK1 (fun g hg => .inl hg)⟩
          case measure => simp [intOf] <;> omega
        | false =>
          have hst := ones_stop hall.out.2 (by rw [List.getElem?_eq_getElem hlt, hb]) (by omega)
          have e1 : onesE l = 0 := by unfold onesE; rw [if_neg (by omega)]
          have e2 : onesV l = i := by unfold onesV; rw [if_pos e1, hst]
          have e3 : onesN l = i + 1 := by unfold onesN; rw [if_neg (by omega), hst]
          rw [hb] at g2
          have E1 := Lib.hid e1
          have E2 := Lib.hid e2
          have G := Lib.hid (And.intro g1 (And.intro g2 (And.intro g3 e3)))
          have hi' : i < 24 := by omega
          clear g1 g2 g3 hb hn h24 hend hst e1 e2 e3
          go_wp2_with fail
          refine (get_c p s (a + i) 1 _ hs (by omega) hR').mono ?_
          rintro e w1 ⟨rfl, hR1, hK1⟩
          rw [show getE s (a + i) 1 = 0 from G.out.1, show getV s (a + i) 1 = 0 from G.out.2.1]
          go_wp2_with fail
          go_ret2
          rw [E1.out, E2.out]
          exact ⟨rfl, ⟨_, by omega, (show getA s (a + i) 1 = a + i + 1 from G.out.2.2.1) ▸ hR1, fun _ => by rw [G.out.2.2.2]; omega⟩, hK.trans hK1 (fun g hg => .inl hg)⟩
/-- The number behind 24 bits 1. -/
def wholeE (l : List Bool) (k : Nat) : Int := if l.length < 64 then 10 else if num (l.take 64) / 2 ^ k < 24 then 11 else 0
def wholeV (l : List Bool) (k : Nat) : Nat := if wholeE l k = 0 then num (l.take 64) else 0
theorem whole_c (p : Nat) (s : List UInt8) (a k : Nat) (w : World) (hs : s.length ≤ 281474976710656) (ha : a ≤ 8 * s.length) (hk : k ≤ 40) (hR : IsR 94 p s a w) :
    Calls Try.prog 67 #[.pointer (some ⟨p, 0, none⟩), .int .i64 k] w fun e w' => e = .returned (.tuple #[.int .u64 (wholeV (rest s a) k), .int .i64 (wholeE (rest s a) k)]) ∧
      Reached 94 p s (wholeE (rest s a) k) (a + 64) w w' := by
  have hlen := rest_length s a
  by_cases h0 : 8 * s.length < a + 64
  · have e : wholeE (rest s a) k = 10 := by unfold wholeE; rw [if_pos (by omega)]
    have ev : wholeV (rest s a) k = 0 := by unfold wholeV; rw [if_neg (by omega)]
    rw [e, ev]
    obtain ⟨g1, g2, g3⟩ := get_short (s := s) (a := a) (b := 64) (by omega) (by omega)
    have G := Lib.hid (And.intro g1 (And.intro g2 g3))
    clear e ev g1 g2 g3 hlen
    go_enter Try.func67, Try.ntmps67
    go_wp2_with fail
    refine (get_c p s a 64 _ hs ha hR).mono ?_
    rintro e w1 ⟨rfl, hR1, hK1⟩
    rw [show getE s a 64 = 10 from G.out.1, show getV s a 64 = 0 from G.out.2.1]
    go_wp2_with fail
    go_ret2
    exact ⟨rfl, ⟨_, ha, (show getA s a 64 = a from G.out.2.2) ▸ hR1, fun h => absurd h (by decide)⟩, hK1⟩
  · obtain ⟨g1, g2, g3⟩ := get_ok (s := s) (a := a) (b := 64) (by omega) (by omega)
    have hx := nextB_lt s a 64
    obtain ⟨x, hxe⟩ : ∃ x, nextB s a 64 = x := ⟨_, rfl⟩
    have hnum : num ((rest s a).take 64) = x := by rw [← nextB_rest]; exact hxe
    rw [hxe] at g2 hx
    have G := Lib.hid (And.intro g1 (And.intro g2 g3))
    have hx64 : x < 18446744073709551616 := hx
    clear hx
    have hq := div_int x k
    obtain ⟨q, hqe⟩ : ∃ q, x / 2 ^ k = q := ⟨_, rfl⟩
    rw [hqe] at hq
    by_cases h1 : q < 24
    · have e : wholeE (rest s a) k = 11 := by unfold wholeE; rw [if_neg (by omega), if_pos (by rw [hnum, hqe]; exact h1)]
      have ev : wholeV (rest s a) k = 0 := by unfold wholeV; rw [if_neg (by omega)]
      rw [e, ev]
      clear e ev g1 g2 g3 hlen hnum hxe hqe
      go_enter Try.func67, Try.ntmps67
      go_wp2_with fail
      refine (get_c p s a 64 _ hs ha hR).mono ?_
      rintro e w1 ⟨rfl, hR1, hK1⟩
      rw [show getE s a 64 = 0 from G.out.1, show getV s a 64 = x from G.out.2.1]
      go_wp2_with fail
      go_ret2
      exact ⟨rfl, ⟨_, by omega, (show getA s a 64 = a + 64 from G.out.2.2) ▸ hR1, fun h => absurd h (by decide)⟩, hK1⟩
    · have e : wholeE (rest s a) k = 0 := by unfold wholeE; rw [if_neg (by omega), if_neg (by rw [hnum, hqe]; exact h1)]
      have ev : wholeV (rest s a) k = x := by unfold wholeV; rw [if_pos e, hnum]
      rw [e, ev]
      clear e ev g1 g2 g3 hlen hnum hxe hqe
      go_enter Try.func67, Try.ntmps67
      go_wp2_with fail
      refine (get_c p s a 64 _ hs ha hR).mono ?_
      rintro e w1 ⟨rfl, hR1, hK1⟩
      rw [show getE s a 64 = 0 from G.out.1, show getV s a 64 = x from G.out.2.1]
      go_wp2_with fail
      go_ret2
      exact ⟨rfl, ⟨_, by omega, (show getA s a 64 = a + 64 from G.out.2.2) ▸ hR1, fun _ => rfl⟩, hK1⟩
/-- The cases of the document's Rice. -/
theorem dec_short {l : List Bool} {k : Nat} (hk : k ≤ 40) (h : onesE l ≠ 0) : decE l k = 10 ∧ onesE l = 10 := by
  unfold onesE at h ⊢
  by_cases h1 : leadB l < 24 ∧ l.length ≤ leadB l
  · rw [if_pos h1]
    unfold decE
    rw [if_neg (by omega), if_neg (by omega), if_pos (by omega)]
    exact ⟨rfl, rfl⟩
  · rw [if_neg h1] at h; exact absurd rfl h
theorem dec_whole {l : List Bool} {k : Nat} (hk : k ≤ 40) (h : leadB l = 24) : decE l k = wholeE (l.drop 24) k ∧ decV l k = wholeV (l.drop 24) k ∧ (wholeE (l.drop 24) k = 0 → decN l k = 88) := by
  have hl := (leadB_le l).2
  have e : decE l k = wholeE (l.drop 24) k := by
    unfold decE wholeE
    rw [if_neg (by omega), if_pos h, List.length_drop, Int.toNat_natCast]
    by_cases h1 : l.length < 88
    · rw [if_pos h1, if_pos (by omega)]
    · rw [if_neg h1, if_neg (show ¬ l.length - 24 < 64 by omega)]
  refine ⟨e, ?_, fun h0 => ?_⟩
  · unfold decV wholeV; rw [e, if_pos h]
  · unfold decN; rw [e, if_pos h0, if_pos h]
theorem dec_low {l : List Bool} {k : Nat} (hk : k ≤ 40) (h : leadB l ≠ 24) (h2 : leadB l < l.length) :
    (l.length < leadB l + 1 + k → decE l k = 10) ∧ (leadB l + 1 + k ≤ l.length → decE l k = 0 ∧ decV l k = leadB l * 2 ^ k + num ((l.drop (leadB l + 1)).take k) ∧ decN l k = leadB l + 1 + k) := by
  refine ⟨fun h3 => ?_, fun h3 => ?_⟩
  · unfold decE; rw [if_neg (by omega), if_neg h, if_pos (by omega)]
  · have e : decE l k = 0 := by unfold decE; rw [if_neg (by omega), if_neg h, if_neg (by omega)]
    refine ⟨e, ?_, ?_⟩
    · unfold decV; rw [if_pos e, if_neg h]; rfl
    · unfold decN; rw [if_pos e, if_neg h]; rfl
theorem dec_bad {l : List Bool} {k : Int} (h : decE l k ≠ 0) : decV l k = 0 ∧ decN l k = 0 := by
  unfold decV decN; rw [if_neg h, if_neg h]; exact ⟨rfl, rfl⟩
set_option maxRecDepth 100000 in
theorem number_c (p : Nat) (s : List UInt8) (a k : Nat) (w : World) (hs : s.length ≤ 281474976710656) (ha : a ≤ 8 * s.length) (hk : k ≤ 40) (hR : IsR 94 p s a w) :
    Calls Try.prog 64 #[.pointer (some ⟨p, 0, none⟩), .int .i64 k] w fun e w' => e = .returned (.tuple #[.int .u64 (decV (rest s a) k), .int .i64 (decE (rest s a) k)]) ∧
      Reached 94 p s (decE (rest s a) k) (a + decN (rest s a) k) w w' := by
  have hlen := rest_length s a
  obtain ⟨l, hl⟩ : ∃ l, rest s a = l := ⟨_, rfl⟩
  have hone := ones_c p s a w hs ha hR
  rw [hl] at hone hlen
  rw [hl]
  by_cases h1 : onesE l = 0
  · by_cases h2 : leadB l = 24
    · obtain ⟨e1, e2, e3⟩ := dec_whole (k := k) hk h2
      have hll := (leadB_le l).2
      have hv : onesV l = 24 := by unfold onesV; rw [if_pos h1, h2]
      have hn : onesN l = 24 := by unfold onesN; rw [if_pos h2]
      have hd : rest s (a + 24) = l.drop 24 := by rw [← rest_drop, hl]
      rw [h1, hv] at hone
      have E := Lib.hid (And.intro e1 (And.intro e2 e3))
      have HD := Lib.hid hd
      have HN := Lib.hid hn
      have HL := Lib.hid hone
      clear hone hlen hl h1 hv e1 e2 e3 hn hd
      go_enter Try.func64, Try.ntmps64
      go_wp2_with fail
      refine HL.out.mono ?_
      rintro e w1 ⟨rfl, ⟨a1, ha1, hR1, h3⟩, hK1⟩
      obtain rfl : a1 = a + 24 := by have := h3 rfl; rw [HN.out] at this; exact this
      clear h3
      go_wp2_with fail
      refine (whole_c p s (a + 24) k _ hs ha1 hk hR1).mono ?_
      rintro e w2 ⟨rfl, ⟨a2, ha2, hR2, h4⟩, hK2⟩
      rw [HD.out] at h4 ⊢
      have H4 := Lib.hid h4
      clear h4
      go_wp2_with fail
      go_ret2
      rw [E.out.1, E.out.2.1]
      exact ⟨rfl, ⟨a2, ha2, hR2, fun h => by rw [E.out.2.2 h, H4.out h]⟩, hK1.trans hK2 (fun g hg => .inl hg)⟩
    · have h3 : leadB l < l.length := by unfold onesE at h1; have := (leadB_le l).1; split at h1 <;> omega
      obtain ⟨d1, d2⟩ := dec_low (k := k) hk h2 h3
      have hle := (leadB_le l).1
      obtain ⟨q, hq⟩ : ∃ q, leadB l = q := ⟨_, rfl⟩
      have hv : onesV l = q := by unfold onesV; rw [if_pos h1, hq]
      have hn : onesN l = q + 1 := by unfold onesN; rw [if_neg h2, hq]
      rw [hq] at h3 d1 d2 hle h2
      rw [h1, hv] at hone
      have H1 := Lib.hid h1
      have HN := Lib.hid hn
      have HL := Lib.hid hone
      by_cases h4 : l.length < q + 1 + k
      · have e1 := d1 h4
        obtain ⟨e2, -⟩ := dec_bad (l := l) (k := k) (by omega)
        obtain ⟨g1, g2, g3⟩ := get_short (s := s) (a := a + (q + 1)) (b := k) (by omega) (by omega)
        have E := Lib.hid (And.intro e1 e2)
        have G := Lib.hid (And.intro g1 (And.intro g2 g3))
        clear hone hlen hl h1 hv e1 e2 hn d1 d2 hq g1 g2 g3
        have h24 : ((q : Int) == 24) = false := by simp; omega
        go_enter Try.func64, Try.ntmps64
        go_wp2_with fail
        refine HL.out.mono ?_
        rintro e w1 ⟨rfl, ⟨a1, ha1, hR1, h5⟩, hK1⟩
        obtain rfl : a1 = a + (q + 1) := by have := h5 rfl; rw [HN.out] at this; exact this
        clear h5
        go_wp2_with fail
        refine (get_c p s (a + (q + 1)) k _ hs ha1 hR1).mono ?_
        rintro e w2 ⟨rfl, hR2, hK2⟩
        rw [G.out.1, G.out.2.1]
        go_wp2_with fail
        go_ret2
        rw [E.out.1, E.out.2]
        exact ⟨rfl, ⟨_, by rw [G.out.2.2]; exact ha1, hR2, fun h => absurd h (by decide)⟩, hK1.trans hK2 (fun g hg => .inl hg)⟩
      · obtain ⟨e1, e2, e3⟩ := d2 (by omega)
        obtain ⟨g1, g2, g3⟩ := get_ok (s := s) (a := a + (q + 1)) (b := k) (by omega) (by omega)
        have hy := nextB_lt s (a + (q + 1)) k
        have hyy : nextB s (a + (q + 1)) k = num ((l.drop (q + 1)).take k) := by rw [nextB_rest, ← rest_drop, hl]
        obtain ⟨y, hye⟩ : ∃ y, nextB s (a + (q + 1)) k = y := ⟨_, rfl⟩
        rw [hye] at hyy hy g2
        rw [← hyy] at e2
        have hval := or_value q y k 64 (q * 2 ^ k + y) rfl hy (by
          have : q * 2 ^ k ≤ 23 * 2 ^ k := Nat.mul_le_mul_right _ (by omega)
          have : 2 ^ k ≤ 2 ^ 40 := Nat.pow_le_pow_right (by omega) hk
          omega) (by omega)
        obtain ⟨z, hz⟩ : ∃ z, q * 2 ^ k + y = z := ⟨_, rfl⟩
        rw [hz] at hval e2
        have hub : a + (q + 1) + k ≤ 8 * s.length := by omega
        have E := Lib.hid (And.intro e1 (And.intro e2 e3))
        have G := Lib.hid (And.intro g1 (And.intro g2 g3))
        clear hone hlen hl h1 hv e1 e2 e3 hn d1 d2 hq g1 g2 g3 hye hyy hz hy
        have h24 : ((q : Int) == 24) = false := by simp; omega
        go_enter Try.func64, Try.ntmps64
        go_wp2_with fail
        refine HL.out.mono ?_
        rintro e w1 ⟨rfl, ⟨a1, ha1, hR1, h5⟩, hK1⟩
        obtain rfl : a1 = a + (q + 1) := by have := h5 rfl; rw [HN.out] at this; exact this
        clear h5
        go_wp2_with fail
        refine (get_c p s (a + (q + 1)) k _ hs ha1 hR1).mono ?_
        rintro e w2 ⟨rfl, hR2, hK2⟩
        rw [G.out.1, G.out.2.1]
        go_wp2_with fail
        go_ret2
        rw [E.out.1, E.out.2.1, E.out.2.2]
        exact ⟨rfl, ⟨_, by rw [G.out.2.2]; exact hub, hR2, fun _ => by rw [G.out.2.2]; omega⟩, hK1.trans hK2 (fun g hg => .inl hg)⟩
  · obtain ⟨e1, h2⟩ := dec_short (k := k) hk h1
    obtain ⟨e2, -⟩ := dec_bad (l := l) (k := k) (by omega)
    have hv : onesV l = 0 := by unfold onesV; rw [if_neg h1]
    rw [h2, hv] at hone
    have E := Lib.hid (And.intro e1 e2)
    have HL := Lib.hid hone
    clear hone hlen hl h1 h2 hv e1 e2
    go_enter Try.func64, Try.ntmps64
    go_wp2_with fail
    refine HL.out.mono ?_
    rintro e w1 ⟨rfl, ⟨a1, ha1, hR1, h3⟩, hK1⟩
    go_wp2_with fail
    go_ret2
    rw [E.out.1, E.out.2]
    exact ⟨rfl, ⟨a1, ha1, hR1, fun h => absurd h (by decide)⟩, hK1⟩
set_option maxRecDepth 100000 in
theorem rdRice_c (p : Nat) (s : List UInt8) (a : Nat) (b : Int) (w : World) (hs : s.length ≤ 281474976710656) (ha : a ≤ 8 * s.length) (hR : IsR 94 p s a w) :
    Calls Try.prog 60 #[.pointer (some ⟨p, 0, none⟩), .int .i64 b] w fun e w' => e = .returned (.tuple #[.int .u64 (decV (rest s a) b), .int .i64 (decE (rest s a) b)]) ∧ IsR 94 p s (a + decN (rest s a) b) w' ∧ Keeps [p] w w' := by
  by_cases h0 : b < 0 ∨ 40 < b
  · have e1 : decE (rest s a) b = 1 := by unfold decE; rw [if_pos h0]
    obtain ⟨e2, e3⟩ := dec_bad (l := rest s a) (k := b) (by omega)
    rw [e1, e2, e3]
    clear e1 e2 e3
    go_enter Try.func60, Try.ntmps60
    go_wp2_with fail
    refine (mayShift_no b _ h0).mono ?_
    rintro e w' ⟨rfl, rfl⟩
    go_wp2_with fail
    go_ret2
    exact ⟨rfl, hR, Keeps.refl _ _⟩
  · obtain ⟨k, rfl⟩ : ∃ k : Nat, b = k := ⟨b.toNat, by omega⟩
    obtain ⟨hc0, hc1, hf0, hf1⟩ := hR.cells
    have hp := hR.lt
    by_cases h1 : decE (rest s a) k = 0
    · have hnum := fun (q : Nat) (W : World) (h : IsR _ q s a W) => number_c q s a k W hs ha (by omega) h
      rw [h1] at hnum
      obtain ⟨v, hv⟩ : ∃ v, decV (rest s a) k = v := ⟨_, rfl⟩
      obtain ⟨n, hn⟩ : ∃ n, a + decN (rest s a) k = n := ⟨_, rfl⟩
      rw [hv, hn] at hnum
      rw [h1, hv, hn]
      have HN : Hid (∀ (q : Nat) (W : World) (h : IsR _ q s a W), _) := hnum
      clear hnum hv hn h1
      go_enter Try.func60, Try.ntmps60
      go_wp2_with fail
      refine (mayShift_yes k _ (by omega) (by omega)).mono ?_
      rintro e w' ⟨rfl, rfl⟩
      go_wp2_with fail
      refine (HN.out w.heap.size _ (blk_new _ _)).mono ?_
      rintro e w1 ⟨rfl, ⟨a1, ha1, hR1, h3⟩, hK1⟩
      obtain rfl := h3 rfl
      clear h3
      obtain ⟨d0, d1, e0, e1⟩ := hR1.cells
      have hR2 : IsR 94 p s a w1 := IsR.keeps (blk_alloc hR _) hK1 (by simp; omega)
      obtain ⟨c0, c1, f0, f1⟩ := hR2.cells
      have hne : p ≠ w.heap.size := by omega
      go_wp2_with fail
      go_ret2
      refine ⟨rfl, hR2.copied, ?_⟩
      exact ((((Keeps.refl [p] w).alloc _).trans hK1 (fun g hg => .inr (by simp at hg; omega))).setCell (p := ⟨p, 0, none⟩) (.inl (by simp)) _).setCell (p := ⟨p, 1, none⟩) (.inl (by simp)) _
    · obtain ⟨e2, e3⟩ := dec_bad h1
      have hnum := fun (q : Nat) (W : World) (h : IsR _ q s a W) => number_c q s a k W hs ha (by omega) h
      rw [e2] at hnum
      rw [e2, e3]
      obtain ⟨v, hv⟩ : ∃ v, decE (rest s a) k = v := ⟨_, rfl⟩
      rw [hv] at hnum h1 ⊢
      have hvv : (v != 0) = true := by simpa using h1
      have HN : Hid (∀ (q : Nat) (W : World) (h : IsR _ q s a W), _) := hnum
      clear hnum hv e2 e3
      go_enter Try.func60, Try.ntmps60
      go_wp2_with fail
      refine (mayShift_yes k _ (by omega) (by omega)).mono ?_
      rintro e w' ⟨rfl, rfl⟩
      go_wp2_with fail
      refine (HN.out w.heap.size _ (blk_new _ _)).mono ?_
      rintro e w1 ⟨rfl, -, hK1⟩
      have hR2 : IsR 94 p s a w1 := IsR.keeps (blk_alloc hR _) hK1 (by simp; omega)
      go_wp2_with fail
      go_ret2
      exact ⟨rfl, hR2, ((Keeps.refl [p] w).alloc _).trans hK1 (fun g hg => .inr (by simp at hg; omega))⟩
theorem strClone_c (l : List UInt8) (w : World) (h : l.length ≤ 281474976710656) : Calls Try.prog 63 #[.string (str l)] w fun e w' => e = .returned (.string (str l)) ∧ Below w.heap.size w w' := by
  go_enter Try.func63, Try.ntmps63
  go_wp2_with fail
  refine (Try.stringslite_Clone (str l) _ (by rw [str_size]; exact h)).mono ?_
  rintro e w' ⟨rfl, hb⟩
  go_wp2_with fail
  go_ret
  exact ⟨rfl, hb⟩
theorem read_c (s : List UInt8) (w : World) (hs : s.length ≤ 281474976710656) :
    Calls Try.prog 59 #[.string (str s)] w fun e w' => ∃ p, e = .returned (.pointer (some ⟨p, 0, none⟩)) ∧ IsR 94 p s 0 w' ∧ w.heap.size ≤ p ∧ Keeps [] w w' := by
  go_enter Try.func59, Try.ntmps59
  go_wp2_with fail
  refine (strClone_c s _ hs).mono ?_
  rintro e w1 ⟨rfl, hb⟩
  go_wp2_with fail
  go_ret
  exact ⟨_, rfl, blk_new _ _, hb.size, (Keeps.below hb).alloc _⟩
end Go.Proofs.Yteaelcimlmckjaa
