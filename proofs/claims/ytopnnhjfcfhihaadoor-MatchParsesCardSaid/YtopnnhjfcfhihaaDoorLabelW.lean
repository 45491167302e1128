/-
  Layer 4 (label): what the program's unquote, guess and Parse return; all that was in memory stays.
-/
import Derived.Test.YtopnnhjfcfhihaaDoorLabelP
import Derived.Test.YtopnnhjfcfhihaaDoorLabelG
import Derived.Test.YtopnnhjfcfhihaaDoorLabelParse
namespace Go.Proofs.YtopnnhjfcfhihaaDoor
open Go.RowKit Go.Deep
attribute [local go_sem] str_size str_append str_toList str_get str_extract
set_option linter.unusedVariables false
set_option linter.unusedSimpArgs false
def meantL (c : UInt8) : UInt8 := if c.toNat = 110 then 10 else c
theorem meant_c (c : UInt8) (w : World) : Calls Tryd.prog 84 #[.int .u8 (c.toNat : Int)] w fun e w' => e = .returned (.int .u8 ((meantL c).toNat : Int)) ∧ w = w' := by
  by_cases h : c.toNat = 110
  · have t1 : (((c.toNat : Nat) : Int) == 110) = true := by simp [h]
    have e : meantL c = 10 := by unfold meantL; rw [if_pos h]
    rw [e]
    clear h e
    go_enter Tryd.func84, Tryd.ntmps84
    go_wp2_with fail
    go_ret
    exact ⟨rfl, rfl⟩
  · have t1 : (((c.toNat : Nat) : Int) == 110) = false := by rw [beq_eq_false_iff_ne]; omega
    have e : meantL c = c := by unfold meantL; rw [if_neg h]
    rw [e]
    clear h e
    go_enter Tryd.func84, Tryd.ntmps84
    go_wp2_with fail
    go_ret
    exact ⟨rfl, rfl⟩
theorem ret_ssb {a b c d : List UInt8} {x y : Bool} (h : (a, b, x) = (c, d, y)) : Ending.returned (.tuple #[.string (str a), .string (str b), .bool x]) = .returned (.tuple #[.string (str c), .string (str d), .bool y]) := by
  injection h with h1 h2; injection h2 with h2 h3; rw [h1, h2, h3]
set_option maxHeartbeats 2000000 in
theorem unquote_c (s : List UInt8) (w : World) (hs : s.length ≤ 1048576) : Calls Tryd.prog 82 #[.string (str s)] w fun e w' => e = .returned (.tuple #[.string (str (unqL s).1), .string (str (unqL s).2.1), .bool (unqL s).2.2]) ∧ Below w.heap.size w w' := by
  obtain ⟨i0, hi0, hz0, hz1, hz2⟩ := info_parts byte_info
  obtain ⟨V, hV⟩ : ∃ V, (unqL s).1 = V := ⟨_, rfl⟩
  obtain ⟨T, hTT⟩ : ∃ T, (unqL s).2.1 = T := ⟨_, rfl⟩
  obtain ⟨O, hO⟩ : ∃ O, (unqL s).2.2 = O := ⟨_, rfl⟩
  rw [hV, hTT, hO]
  have HR : Hid (unqL s = (V, T, O)) := by show _ = _; rw [← hV, ← hTT, ← hO]
  have hsome : ∀ v b, scan (s.drop 1) = some (v, b) → unqL s = (v, b, true) := fun v b h => by unfold unqL; rw [h]
  have hnone : scan (s.drop 1) = none → unqL s = ([], [], false) := fun h => by unfold unqL; rw [h]
  have HSO := Lib.hid hsome
  have HNO := Lib.hid hnone
  clear hV hTT hO hsome hnone
  go_enter Tryd.func82, Tryd.ntmps82
  go_wp2_with fail
  go_loopw [5, 6] (fun v c wr => ∃ (i : Nat) (acc : List UInt8), i ≤ s.length + 1 ∧ c = .int .i64 i ∧ wr.ownsRow w.heap.size 5 1 v acc.length (acc.map fun c => .int .u8 (c.toNat : Int)) ∧ acc.length ≤ i ∧ Hid (scan (s.drop 1) = pre acc (scan (s.drop i))) ∧ Below w.heap.size w wr) (fun _ c _ => s.length + 1 - (intOf c).toNat)
  case atStart => exact ⟨1, [], by omega, rfl, ⟨rfl, .inl ⟨rfl, rfl⟩⟩, by simp, by show _ = _; rw [pre_nil], Below.refl _ _⟩
  case round =>
    obtain ⟨i, acc, hi, rfl, hown, hal, HI, hb⟩ := hrel
    obtain ⟨A, cap, rfl⟩ := row_slice hown
    have hsz := hb.size
    have hlow := Lib.hid (ownLow hown)
    by_cases hlt : i < s.length
    · have E34 := Lib.hid (fun h => pre_end (acc := acc) hlt h)
      have EPL := Lib.hid (fun h1 h2 => pre_plain (acc := acc) hlt h1 h2)
      have ECUT := Lib.hid (fun he h2 => pre_cut (s := s) (acc := acc) (i := i) he h2)
      have EESC := Lib.hid (fun he h2 => pre_esc (s := s) (acc := acc) (i := i) he h2)
      obtain ⟨x, hx⟩ : ∃ x, s[i]'hlt = x := ⟨_, rfl⟩
      have HX := Lib.hid hx
      have hxl : x.toNat < 256 := x.toNat_lt
      by_cases h1 : x.toNat = 34
      · have t1 : (((x.toNat : Nat) : Int) == 34) = true := by simp [h1]
        have e := HSO.out _ _ (HI.out.trans (E34.out (by rw [HX.out]; exact h1)))
        rw [HR.out] at e
        simp only [Prod.mk.injEq] at e
        obtain ⟨rfl, rfl, rfl⟩ := e
        have hcv := fun n => conv_mine (P := Tryd.prog) (wr.drewN n) 63 9 5 Tryd.underlying63 Tryd.underlying5 Tryd.underlying9 w.heap.size V A V.length cap rfl hown
        have htk : (s.drop (i + 1)).take (s.length - (i + 1)) = s.drop (i + 1) := List.take_of_length_le (by rw [List.length_drop]; omega)
        clear HI HR hown
        go_wp2_with fail
        go_quiet (fail)
        go_wp2_with fail
        go_ret3
        exact ⟨rfl, below_drewN hb _⟩
      · have t1 : (((x.toNat : Nat) : Int) == 34) = false := by simp; omega
        by_cases h2 : x.toNat = 92
        · have t2 : (((x.toNat : Nat) : Int) == 92) = true := by simp [h2]
          by_cases hend : i + 1 = s.length
          · have t3 : (((i : Int) + 1) == (s.length : Int)) = true := by simp; omega
            have e := HNO.out (HI.out.trans (ECUT.out hend (by rw [HX.out]; exact h2)))
            rw [HR.out] at e
            simp only [Prod.mk.injEq] at e
            obtain ⟨rfl, rfl, rfl⟩ := e
            clear HI HR hown
            go_wp2_with fail
            go_ret3
            exact ⟨rfl, hb⟩
          · have t3 : (((i : Int) + 1) == (s.length : Int)) = false := by simp; omega
            have hlt2 : i + 1 < s.length := by omega
            have es := EESC.out hlt2 (by rw [HX.out]; exact h2)
            obtain ⟨y, hy⟩ : ∃ y, s[i + 1]'hlt2 = y := ⟨_, rfl⟩
            rw [hy] at es
            have ES := Lib.hid (HI.out.trans es)
            have cm := fun W => meant_c y W
            obtain ⟨z, hz⟩ : ∃ z, meantL y = z := ⟨_, rfl⟩
            have hz' : (if y.toNat = 110 then (10 : UInt8) else y) = z := hz
            rw [hz] at cm
            have HZ := Lib.hid hz'
            have HO := Lib.hid (hown.alloc (.cells #[.int .u8 (z.toNat : Int)] 5))
            clear es hend hz hz' hown HI
            go_wp2_with (first | (go_at_call 84; refine (cm _).mono ?_; rintro e w1 ⟨rfl, rfl⟩) | (at_builtin; refine wpList_append_lies _ rfl (.tmp 38) (.tmp 43) 63 rfl w.heap.size 5 i0 (.int .u8 0) 1 1 Tryd.underlying63 hi0 hz0 hz1 hz2 rfl (by decide) _ acc.length _ rfl HO.out ⟨wr.heap.size, 0, none⟩ 1 1 [.int .u8 (z.toNat : Int)] rfl rfl ?c1 ?c2 (by decide) ?c3 ?c4 ?c5 _ rfl ?c6))
            case c1 => exact cell_one_new _ _ _
            case c2 => intro u hu; simp at hu; subst hu; rfl
            case c3 => unfold maxLen; omega
            case c4 => omega
            case c5 => simp; omega
            case c6 =>
              intro g1 cap1 w2 hown1 hg1 _ hl1
              go_wp2_with fail
              go_roundw
              case rel => exact ⟨i + 2, acc ++ [z], by omega, by go_num, by simpa using hown1, by simp; omega, by show _ = _; rw [ES.out, HZ.out], (hb.alloc hsz _).grown hg1 (by simp; omega) hlow.out⟩
              case measure => simp [intOf]; omega
        · have t2 : (((x.toNat : Nat) : Int) == 92) = false := by simp; omega
          have es := HI.out.trans (EPL.out (by rw [HX.out]; exact h1) (by rw [HX.out]; exact h2))
          rw [HX.out] at es
          have ES := Lib.hid es
          have HO := Lib.hid (hown.alloc (.cells #[.int .u8 (x.toNat : Int)] 5))
          clear es hown HI
          go_wp2_with (at_builtin; refine wpList_append_lies _ rfl (.tmp 16) (.tmp 20) 63 rfl w.heap.size 5 i0 (.int .u8 0) 1 1 Tryd.underlying63 hi0 hz0 hz1 hz2 rfl (by decide) _ acc.length _ rfl HO.out ⟨wr.heap.size, 0, none⟩ 1 1 [.int .u8 (x.toNat : Int)] rfl rfl ?c1 ?c2 (by decide) ?c3 ?c4 ?c5 _ rfl ?c6)
          case c1 => exact cell_one_new _ _ _
          case c2 => intro u hu; simp at hu; subst hu; rfl
          case c3 => unfold maxLen; omega
          case c4 => omega
          case c5 => simp; omega
          case c6 =>
            intro g1 cap1 w2 hown1 hg1 _ hl1
            go_wp2_with fail
            go_roundw
            case rel => exact ⟨i + 1, acc ++ [x], by omega, by go_num, by simpa using hown1, by simp; omega, ES.out, (hb.alloc hsz _).grown hg1 (by simp; omega) hlow.out⟩
            case measure => simp [intOf]; omega
    · have e := HNO.out (HI.out.trans (by rw [List.drop_eq_nil_of_le (by omega)]; rfl))
      rw [HR.out] at e
      simp only [Prod.mk.injEq] at e
      obtain ⟨rfl, rfl, rfl⟩ := e
      clear HI HR hown
      go_wp2_with fail
      go_ret3
      exact ⟨rfl, hb⟩
end Go.Proofs.YtopnnhjfcfhihaaDoor
