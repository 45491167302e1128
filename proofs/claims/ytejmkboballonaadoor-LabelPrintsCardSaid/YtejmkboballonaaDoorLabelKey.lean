/-
  Layer 4 (label): what Key returns, the program's and the document's; all that was in memory stays.
-/
import Derived.Test.YtejmkboballonaaDoorLabelC
import Derived.Test.YtejmkboballonaaDoorLabelD
import Derived.Test.YtejmkboballonaaDoorLabelK
import Derived.Test.YtejmkboballonaaDoorZigRef
namespace Go.Proofs.YtejmkboballonaaDoor
open Go.RowKit Go.Deep
attribute [local go_sem] str_size str_append str_toList str_get str_extract
set_option linter.unusedVariables false
set_option linter.unusedSimpArgs false
set_option maxHeartbeats 1000000 in
theorem key_c (A : Option Addr) (len cap : Nat) (l : List Lab) (w : World) (hl : len ≤ 140737488355328) (hA : LAt w A len l) (hz : ∀ x ∈ l, x.1.length ≤ 4096 ∧ x.2.length ≤ 4096) (hT : Lib.Utf8Tabs 0 1 w) :
    Calls Tryd.prog 17 #[.slice A len cap] w fun e w' => e = .returned (.tuple #[.string (str (if okL l = true then keyL l else [])), .int .i64 (eOf (okL l))]) ∧ Below w.heap.size w w' := by
  have c0 := fun W h1 h2 => check_c A len cap l W hl h1 hz h2
  have hle := hA.1
  subst hle
  cases hO : okL l with
  | false =>
    rw [hO] at c0
    go_enter Tryd.func17, Tryd.ntmps17
    go_wp2_with fail
    refine (c0 _ hA hT).mono ?_
    rintro e w1 ⟨rfl, hb1⟩
    go_wp2_with fail
    go_ret2
    exact ⟨rfl, hb1⟩
  | true =>
  rw [hO] at c0
  have hl8 := okL_len hO
  have hp32 := okL_32 hO
  obtain ⟨R, hR⟩ : ∃ R, keyL l = R := ⟨_, rfl⟩
  rw [if_pos rfl, hR]
  have HR := Lib.hid hR
  have HP := Lib.hid hp32
  clear hR hp32 hO
  go_enter Tryd.func17, Tryd.ntmps17
  go_wp2_with fail
  refine (c0 _ hA hT).mono ?_
  rintro e w1 ⟨rfl, hb1⟩
  have e0 : eOf true = 0 := rfl
  rw [e0]
  have hs1 := hb1.size
  clear c0 e0
  go_wp2_with fail
  obtain ⟨wo, rfl⟩ : ∃ wo : World, wo = w1 := ⟨_, rfl⟩
  go_loopw [15] (fun c wr => ∃ i : Nat, i ≤ l.length ∧ c = .int .i64 i ∧ Bd wo.heap.size wo.heap.size (keyL (l.take i)) wr ∧ Below wo.heap.size wo wr) (fun c _ => l.length - (intOf c).toNat)
  case atStart => exact ⟨0, Nat.zero_le _, rfl, Bd.fresh wo, (Below.refl _ _).alloc (Nat.le_refl _) _⟩
  case round =>
    obtain ⟨i, hi, rfl, hbd, hb0⟩ := hrel
    have hb : Below w.heap.size w wr := hb1.trans (hb0.mono hs1)
    have hsz0 := hb0.size
    by_cases hlt : i < l.length
    · obtain ⟨-, ad, rfl, h2, h3, h4⟩ := (hA.below hb).2 i hlt
      have hst := keyL_take hlt
      have hkl := keyL_len (l := l.take i) (fun x hx => HP.out x (List.mem_of_mem_take hx))
      rw [List.length_take] at hkl
      obtain ⟨z1, z2⟩ := HP.out _ (List.getElem_mem hlt)
      obtain ⟨x, hx⟩ : ∃ x, l[i]'hlt = x := ⟨_, rfl⟩
      rw [hx] at hst h3 h4 z1 z2
      obtain ⟨n, v1⟩ := x
      simp only at hst h3 h4 z1 z2
      have HST := Lib.hid hst
      have t1 := tx_len_le n z1
      have t2 := tx_len_le v1 z2
      have c1 := fun W => text_c n W (by omega)
      have c2 := fun W => text_c v1 W (by omega)
      obtain ⟨K, hK⟩ : ∃ K, keyL (l.take i) = K := ⟨_, rfl⟩
      rw [hK] at hbd hkl HST
      obtain ⟨X1, hX1⟩ : ∃ X1, tx n = X1 := ⟨_, rfl⟩
      obtain ⟨X2, hX2⟩ : ∃ X2, tx v1 = X2 := ⟨_, rfl⟩
      rw [hX1] at HST t1 c1
      rw [hX2] at HST t2 c2
      have hkl2 : K.length ≤ 700 := by omega
      have hq0 := blk_new wr (.cells #[.string (str n), .string (str v1)] 34)
      have hqb : Below wr.heap.size wr (wr.alloc (.cells #[.string (str n), .string (str v1)] 34)) := (Below.refl _ _).alloc (Nat.le_refl _) _
      have hbd0 := hbd.keeps hqb
      have hqs : wr.heap.size < (wr.alloc (.cells #[.string (str n), .string (str v1)] 34)).heap.size := by simp
      have hbr := hb0.trans (hqb.mono hsz0)
      clear hst hx hK hX1 hX2 hkl
      go_wp2_with (go_at_call 31; refine (c1 _).mono ?_; rintro e w2 ⟨rfl, hb2⟩)
      have hbd2 := hbd0.keeps hb2
      have hq2 := (hb2.block _ hqs).trans hq0
      have hs2 := hb2.size
      have hbr2 := hbr.trans (hb2.mono (by omega))
      go_wp2_with (go_at_call 30; refine (writeString_c wo.heap.size wo.heap.size K X1 _ hbd2 (by omega) (by omega)).mono ?_)
      rintro e w3 ⟨rfl, hbd3, hb3, hk3⟩
      have hq3 := hk3 _ _ _ (by decide) (by decide) hq2
      have hs3 := hb3.size
      have hbr3 := hbr2.trans hb3
      have f1 := blk_cell hq3 1
      simp only [List.getElem?_toArray, List.getElem?_cons_zero, List.getElem?_cons_succ] at f1
      clear hbd hbd0 hbd2 hb2 hbr hbr2 hk3 hb3 hq2 hq0 hqb
      go_wp2_with (go_at_call 31; refine (c2 _).mono ?_; rintro e w4 ⟨rfl, hb4⟩)
      have hbd4 := hbd3.keeps hb4
      have hs4 := hb4.size
      have hbr4 := hbr3.trans (hb4.mono (by have := hbr3.size; omega))
      have hs0 : wo.heap.size ≤ w4.heap.size := hbr4.size
      go_wp2_with (go_at_call 30; refine (writeString_c wo.heap.size wo.heap.size (K ++ X1) X2 _ hbd4 hs0 (by rw [List.length_append]; omega)).mono ?_)
      rintro e w5 ⟨rfl, hbd5, hb5, -⟩
      rw [List.append_assoc, ← HST.out] at hbd5
      have hbr5 := hbr4.trans hb5
      clear hbd3 hbd4 hb4 hbr3 hbr4 hb5
      go_wp2_with fail
      go_roundw
      case rel => exact ⟨i + 1, by omega, by go_num, hbd5, hbr5⟩
      case measure => simp [intOf]; omega
    · obtain rfl : i = l.length := by omega
      rw [List.take_length, HR.out] at hbd
      go_wp2_with (go_at_call 32; refine (string_c wo.heap.size wo.heap.size R _ hbd hsz0).mono ?_)
      rintro e w3 ⟨rfl, hb3⟩
      go_wp2_with fail
      go_ret2
      exact ⟨rfl, hb.trans (hb3.mono hs1)⟩
end Go.Proofs.YtejmkboballonaaDoor
