/-
  Layer 8 (frame): the program's Crc, out of its table of half bytes.
-/
import Derived.Test.YtfhcjlmolneooaaDoorFrameForm
import Derived.Test.YtfhcjlmolneooaaDoorFrameBits
import Derived.Test.YtfhcjlmolneooaaDoorTsMem
import Derived.Test.YtfhcjlmolneooaaDoorZig
import Derived.Laws.BitsAllLaws
namespace Go.Proofs.YtfhcjlmolneooaaDoor
open Go.RowKit Go.Deep
attribute [local go_sem] str_size str_append str_toList str_get str_extract
set_option linter.unusedVariables false
set_option linter.unusedSimpArgs false
/-- The table's cells. -/
def Halves (w : World) : Prop := 0 < w.heap.size ∧ ∀ i (h : i < halfT.length), w.cell? ⟨0, i, none⟩ = some (.int .u16 (halfT[i] : Int))
theorem Halves.below {w w' : World} (h : Halves w) (hb : Below w.heap.size w w') : Halves w' :=
  ⟨Nat.lt_of_lt_of_le h.1 hb.size, fun i hi => (hb.cell (p := ⟨0, i, none⟩) h.1).trans (h.2 i hi)⟩
/-- The higher half meets the half byte that is taken in. -/
theorem half_xor {c h : Nat} (hc : c < 65536) (hh : h < 16) : (c ^^^ (h * 4096)) / 4096 = c / 4096 ^^^ h ∧ (c ^^^ (h * 4096)) % 4096 = c % 4096 := by
  constructor
  · have := Nat.xor_div_two_pow (a := c) (b := h * 4096) (n := 12)
    rw [show (2 : Nat) ^ 12 = 4096 from rfl] at this
    rw [this]; congr 1; omega
  · have := Nat.xor_mod_two_pow (a := c) (b := h * 4096) (n := 12)
    rw [show (2 : Nat) ^ 12 = 4096 from rfl] at this
    rw [this, show h * 4096 % 4096 = 0 by omega, Nat.xor_zero]
theorem taken_c (c h : Nat) (w : World) (hc : c < 65536) (hh : h < 16) (hH : Halves w) :
    Calls Tryd.prog 17 #[.int .u16 c, .int .u8 h] w fun e w' => e = .returned (.int .u16 (stepsT 4 (c ^^^ (h * 4096)) : Nat)) ∧ w = w' := by
  obtain ⟨e1, e2⟩ := half_xor hc hh
  have hx := xor_lt16 hc (show h * 4096 < 65536 by omega)
  have hs := steps_half hx
  obtain ⟨q, hq⟩ : ∃ q, c / 4096 = q := ⟨_, rfl⟩
  rw [hq] at e1
  have hq16 : q < 16 := by omega
  obtain ⟨x, hxx⟩ : ∃ x, q ^^^ h = x := ⟨_, rfl⟩
  rw [hxx] at e1
  have hx16 : x < 16 := by rw [← hxx]; exact Nat.xor_lt_two_pow (n := 4) (by omega) (by omega)
  have hxl : x < halfT.length := by simp [halfT]; omega
  have hc2 := hH.2 x hxl
  obtain ⟨t, ht⟩ : ∃ t, halfT[x]'hxl = t := ⟨_, rfl⟩
  have ht16 : t < 65536 := by rw [← ht]; exact (by decide : ∀ i : Fin 16, halfT[i.val]'(by simp [halfT]) < 65536) ⟨x, hx16⟩
  simp only [e1, e2] at hs
  rw [ht] at hs hc2
  obtain ⟨y, hy⟩ : ∃ y, c % 4096 * 16 = y := ⟨_, rfl⟩
  rw [hy] at hs
  have d1 : (c : Int) / 4096 = (q : Int) := by omega
  have d2 : bits .xor .u16 (q : Int) (h : Int) = (x : Int) := by rw [u16_xor_nat q h (by omega) (by omega), hxx]
  have d3 : IntKind.u16.wrap ((c : Int) * 16) = (y : Int) := by rw [IntKind.wrap_u16]; omega
  have d4 : bits .xor .u16 (y : Int) (t : Int) = ((y ^^^ t : Nat) : Int) := u16_xor_nat y t (by omega) ht16
  rw [← hs] at d4
  obtain ⟨R, hR⟩ : ∃ R, stepsT 4 (c ^^^ h * 4096) = R := ⟨_, rfl⟩
  rw [hR] at d4 ⊢
  clear hs hx e1 e2 hy ht hxx hq hR
  go_enter Tryd.func17, Tryd.ntmps17
  go_wp2_with fail
  go_ret
  exact ⟨rfl, rfl⟩
theorem byte_halves {c b : Nat} (hc : c < 65536) (hb : b < 256) : stepsT 4 (stepsT 4 (c ^^^ (b / 16 * 4096)) ^^^ (b % 16 * 4096)) = byteT c b := (byteT_halves hc hb).symm
set_option maxHeartbeats 1000000 in
theorem crc_c (s : List UInt8) (w : World) (hs : s.length ≤ 281474976710656) (hH : Halves w) : Calls Tryd.prog 9 #[.string (str s)] w fun e w' => e = .returned (.int .i64 (crcL s)) ∧ w = w' := by
  go_enter Tryd.func9, Tryd.ntmps9
  go_wp2_with fail
  go_loopw [3, 7] (fun c i wr => ∃ k v : Nat, k ≤ s.length ∧ i = .int .i64 k ∧ c = .int .u16 v ∧ Hid (v = crcL (s.take k)) ∧ v < 65536 ∧ w = wr) (fun _ i _ => s.length - (intOf i).toNat)
  case atStart => exact ⟨0, 65535, Nat.zero_le _, rfl, rfl, by show _ = _; simp [crcL, crcFrom_nil], by omega, rfl⟩
  case round =>
    obtain ⟨k, v, hk, rfl, rfl, HV, hv, rfl⟩ := hrel
    by_cases hlt : k < s.length
    · have hst := crcL_take s k hlt
      rw [← HV.out] at hst
      obtain ⟨x, hx⟩ : ∃ x, (s[k]'hlt).toNat = x := ⟨_, rfl⟩
      have hxl : x < 256 := by rw [← hx]; exact byte_lt _
      rw [hx, ← byte_halves hv hxl] at hst
      have c1 := taken_c v (x / 16) w hv (by omega) hH
      obtain ⟨u, hu⟩ : ∃ u, stepsT 4 (v ^^^ (x / 16 * 4096)) = u := ⟨_, rfl⟩
      have hul : u < 65536 := by rw [← hu]; exact stepsT_lt 4 (xor_lt16 hv (by omega))
      rw [hu] at hst c1
      have c2 := taken_c u (x % 16) w hul (by omega) hH
      obtain ⟨t, ht⟩ : ∃ t, stepsT 4 (u ^^^ (x % 16 * 4096)) = t := ⟨_, rfl⟩
      have htl : t < 65536 := by rw [← ht]; exact stepsT_lt 4 (xor_lt16 hul (by omega))
      rw [ht] at hst c2
      obtain ⟨p, hp⟩ : ∃ p, x / 16 = p := ⟨_, rfl⟩
      obtain ⟨r, hr⟩ : ∃ r, x % 16 = r := ⟨_, rfl⟩
      have d1 : (x : Int) / 16 = (p : Int) := by omega
      have d2 : bits .and .u8 (x : Int) 15 = (r : Int) := by
        have := u8_and_nat x 15 hxl (by omega)
        rw [show x &&& 15 = x % 16 from Nat.and_two_pow_sub_one_eq_mod (n := 4) x, hr] at this
        exact this
      rw [hp] at c1
      rw [hr] at c2
      have C1 := Lib.hid c1
      have C2 := Lib.hid c2
      have HST := Lib.hid hst
      clear hst hu ht hp hr c1 c2
      go_wp2_with (first
        | (go_at_call_of 17 (Value.int .u16 (v : Int)); refine C1.out.mono ?_; rintro e w1 ⟨rfl, rfl⟩; dsimp only)
        | (go_at_call 17; refine C2.out.mono ?_; rintro e w1 ⟨rfl, rfl⟩; dsimp only))
      go_roundw
      case rel => exact ⟨k + 1, t, by omega, by go_num, rfl, HST.out.symm, htl, trivial⟩
      case measure => simp [intOf]; omega
    · obtain rfl : k = s.length := by omega
      have e := HV.out
      rw [List.take_length] at e
      have HE := Lib.hid e
      clear e
      go_wp2_with fail
      go_ret
      exact ⟨by rw [HE.out]; rfl, rfl⟩
end Go.Proofs.YtfhcjlmolneooaaDoor
