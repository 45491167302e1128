/-
  Layer 4 (label): what the document's own Key returns; all that was in memory stays.
-/
import Derived.Test.YtejmkboballonaaDoorLabelD
import Derived.Test.YtejmkboballonaaDoorHeld
import Derived.Test.YtejmkboballonaaDoorZigRef
namespace Go.Proofs.YtejmkboballonaaDoor
open Go.RowKit Go.Deep
attribute [local go_sem] str_size str_append str_toList str_get str_extract
set_option linter.unusedVariables false
set_option linter.unusedSimpArgs false
set_option maxHeartbeats 1000000 in
theorem refKey_c (A : Option Addr) (len cap : Nat) (l : List Lab) (w : World) (hl : len ≤ 140737488355328) (hA : LAt w A len l) (hz : ∀ x ∈ l, x.1.length ≤ 4096 ∧ x.2.length ≤ 4096) :
    Calls Tryd.prog 18 #[.slice A len cap] w fun e w' => e = .returned (.tuple #[.string (str (if okL l = true then keyL l else [])), .int .i64 (eOf (okL l))]) ∧ Below w.heap.size w w' := by
  have c0 := fun W h1 => refCheck_c A len cap l W hl h1 hz
  have hle := hA.1
  subst hle
  cases hO : okL l with
  | false =>
    rw [hO] at c0
    have e0 : eOf false = 40 := rfl
    go_enter Tryd.func18, Tryd.ntmps18
    go_wp2_with fail
    refine (c0 _ hA).mono ?_
    rintro e w1 ⟨rfl, hb1⟩
    rw [e0]
    clear c0
    go_wp2_with fail
    obtain ⟨wo, rfl⟩ : ∃ wo : World, wo = w1 := ⟨_, rfl⟩
    go_loopw [5, 6] (fun v c wr => v = .string (str []) ∧ c = .int .i64 0 ∧ wo = wr) (fun _ _ _ => 0)
    case atStart => exact ⟨rfl, rfl, rfl⟩
    case round =>
      obtain ⟨rfl, rfl, rfl⟩ := hrel
      by_cases h0 : (0 : Int) < (l.length : Int)
      · go_wp2_with fail
        go_ret2
        exact ⟨rfl, hb1⟩
      · go_wp2_with fail
        go_ret2
        exact ⟨rfl, hb1⟩
  | true =>
  rw [hO] at c0
  have hl8 := okL_len hO
  have hp32 := okL_32 hO
  obtain ⟨R, hR⟩ : ∃ R, keyL l = R := ⟨_, rfl⟩
  rw [if_pos rfl, hR]
  have HR := Lib.hid hR
  have HP := Lib.hid hp32
  clear hR hp32 hO
  go_enter Tryd.func18, Tryd.ntmps18
  go_wp2_with fail
  refine (c0 _ hA).mono ?_
  rintro e w1 ⟨rfl, hb1⟩
  have e0 : eOf true = 0 := rfl
  rw [e0]
  clear c0 e0
  go_wp2_with fail
  obtain ⟨wo, rfl⟩ : ∃ wo : World, wo = w1 := ⟨_, rfl⟩
  go_loopw [5, 6] (fun v c wr => ∃ i : Nat, ∃ K : List UInt8, i ≤ l.length ∧ c = .int .i64 i ∧ v = .string (str K) ∧ Hid (K = keyL (l.take i)) ∧ Below w.heap.size w wr) (fun _ c _ => l.length - (intOf c).toNat)
  case atStart => exact ⟨0, [], Nat.zero_le _, rfl, rfl, rfl, hb1⟩
  case round =>
    obtain ⟨i, K, hi, rfl, rfl, HK, hb⟩ := hrel
    by_cases hlt : i < l.length
    · have hcell := fun W (hW : Below w.heap.size w W) => (hA.below hW).2 i hlt
      obtain ⟨-, ad, hAd, -, -, -⟩ := hcell _ hb
      subst hAd
      have hst := keyL_take hlt
      have hkl := keyL_len (l := l.take i) (fun x hx => HP.out x (List.mem_of_mem_take hx))
      rw [List.length_take, ← HK.out] at hkl
      obtain ⟨z1, z2⟩ := HP.out _ (List.getElem_mem hlt)
      obtain ⟨x, hx⟩ : ∃ x, l[i]'hlt = x := ⟨_, rfl⟩
      rw [hx] at hst hcell z1 z2
      obtain ⟨n, v1⟩ := x
      simp only at hst hcell z1 z2
      have hS : ∀ W, Below w.heap.size w W → Below w.heap.size w W ∧ W.cell? (ad.add (i * 2)) = some (.string (str n)) ∧ W.cell? ⟨(ad.add (i * 2)).block, (ad.add (i * 2)).off + 1, none⟩ = some (.string (str v1)) := by
        intro W hW
        obtain ⟨-, ad', e, _, h3, h4⟩ := hcell W hW
        injection e with e
        subst e
        exact ⟨hW, h3, h4⟩
      have HS := Lib.hid hS
      have t1 := tx_len_le n z1
      have t2 := tx_len_le v1 z2
      have c1 := fun W => refText_c n W (by omega)
      have c2 := fun W => refText_c v1 W (by omega)
      rw [← HK.out] at hst
      have HST := Lib.hid hst
      obtain ⟨X1, hX1⟩ : ∃ X1, tx n = X1 := ⟨_, rfl⟩
      obtain ⟨X2, hX2⟩ : ∃ X2, tx v1 = X2 := ⟨_, rfl⟩
      rw [hX1] at HST t1 c1
      rw [hX2] at HST t2 c2
      have C1 := Lib.hid c1
      have C2 := Lib.hid c2
      have k1 : ¬ (9223372036854775807 < K.length + X1.length) := by omega
      have k2 : ¬ (9223372036854775807 < K.length + X1.length + X2.length) := by omega
      have hKX : str K ++ str X1 ++ str X2 = str (keyL (l.take (i + 1))) := by rw [str_append, str_append, HST.out, List.append_assoc]
      have HKX := Lib.hid hKX
      clear hst hx hX1 hX2 hkl hcell hS c1 c2 hKX
      go_wp2_with fail
      refine wp_region_held_drew (S := fun w' => Below w.heap.size w w' ∧ w'.cell? (ad.add (i * 2)) = some (.string (str n)) ∧ w'.cell? ⟨(ad.add (i * 2)).block, (ad.add (i * 2)).off + 1, none⟩ = some (.string (str v1))) (by kernel_rfl) (HS.out _ hb.drew) (fun hHeld => ?_)
      refine held_w (i := 0) (d := some 19) (v := ?_) rfl (by kernel_rfl) (by kernel_rfl) (by kernel_rfl) (fun _ _ _ h => h) (by rfl) ?_ hHeld ?_
      rotate_left
      · intro w' hSw; obtain ⟨q0, q1, q2⟩ := hSw; simp only [List.getElem?_toArray, List.getElem?_cons_zero, List.getElem?_cons_succ]; go_simp; try with_reducible rfl
      try simp only [Act.put, List.setIfInBounds_toArray, List.set_cons_zero, List.set_cons_succ]
      refine held_w (i := 1) (d := some 20) (v := ?_) rfl (by kernel_rfl) (by kernel_rfl) (by kernel_rfl) (fun _ _ _ h => h) (by rfl) ?_ hHeld ?_
      rotate_left
      · intro w' hSw; obtain ⟨q0, q1, q2⟩ := hSw; simp only [List.getElem?_toArray, List.getElem?_cons_zero, List.getElem?_cons_succ]; go_simp; try with_reducible rfl
      try simp only [Act.put, List.setIfInBounds_toArray, List.set_cons_zero, List.set_cons_succ]
      refine held_w (i := 2) (d := some 21) (v := ?_) rfl (by kernel_rfl) (by kernel_rfl) (by kernel_rfl) (fun _ _ _ h => h) (by rfl) ?_ hHeld ?_
      rotate_left
      · intro w' hSw; obtain ⟨q0, q1, q2⟩ := hSw; simp only [List.getElem?_toArray, List.getElem?_cons_zero, List.getElem?_cons_succ]; go_simp; try with_reducible rfl
      try simp only [Act.put, List.setIfInBounds_toArray, List.set_cons_zero, List.set_cons_succ]
      refine held_w (i := 3) (d := some 22) (v := ?_) rfl (by kernel_rfl) (by kernel_rfl) (by kernel_rfl) (fun _ _ _ h => h) (by rfl) ?_ hHeld ?_
      rotate_left
      · intro w' hSw; obtain ⟨q0, q1, q2⟩ := hSw; simp only [List.getElem?_toArray, List.getElem?_cons_zero, List.getElem?_cons_succ]; go_simp; try with_reducible rfl
      try simp only [Act.put, List.setIfInBounds_toArray, List.set_cons_zero, List.set_cons_succ]
      refine held_w (i := 4) (d := some 23) (v := ?_) rfl (by kernel_rfl) (by kernel_rfl) (by kernel_rfl) (fun _ _ _ h => h) (by rfl) ?_ hHeld ?_
      rotate_left
      · intro w' hSw; obtain ⟨q0, q1, q2⟩ := hSw; simp only [List.getElem?_toArray, List.getElem?_cons_zero, List.getElem?_cons_succ]; go_simp; try with_reducible rfl
      try simp only [Act.put, List.setIfInBounds_toArray, List.set_cons_zero, List.set_cons_succ]
      refine held_w (i := 5) (d := some 24) (v := ?_) rfl (by kernel_rfl) (by kernel_rfl) (by kernel_rfl) (fun _ _ _ h => h) (by rfl) ?_ hHeld ?_
      rotate_left
      · intro w' hSw; obtain ⟨q0, q1, q2⟩ := hSw; simp only [List.getElem?_toArray, List.getElem?_cons_zero, List.getElem?_cons_succ]; go_simp; try with_reducible rfl
      try simp only [Act.put, List.setIfInBounds_toArray, List.set_cons_zero, List.set_cons_succ]
      refine held_w (i := 8) (d := some 27) (v := ?_) rfl (by kernel_rfl) (by kernel_rfl) (by kernel_rfl) (fun _ _ _ h => h) (by rfl) ?_ hHeld ?_
      rotate_left
      · intro w' hSw; obtain ⟨q0, q1, q2⟩ := hSw; simp only [List.getElem?_toArray, List.getElem?_cons_zero, List.getElem?_cons_succ]; go_simp; try with_reducible rfl
      try simp only [Act.put, List.setIfInBounds_toArray, List.set_cons_zero, List.set_cons_succ]
      refine held_w (i := 9) (d := some 28) (v := ?_) rfl (by kernel_rfl) (by kernel_rfl) (by kernel_rfl) (fun _ _ _ h => h) (by rfl) ?_ hHeld ?_
      rotate_left
      · intro w' hSw; obtain ⟨q0, q1, q2⟩ := hSw; simp only [List.getElem?_toArray, List.getElem?_cons_zero, List.getElem?_cons_succ]; go_simp; try with_reducible rfl
      try simp only [Act.put, List.setIfInBounds_toArray, List.set_cons_zero, List.set_cons_succ]
      refine held_w (i := 10) (d := some 29) (v := ?_) rfl (by kernel_rfl) (by kernel_rfl) (by kernel_rfl) (fun _ _ _ h => h) (by rfl) ?_ hHeld ?_
      rotate_left
      · intro w' hSw; obtain ⟨q0, q1, q2⟩ := hSw; simp only [List.getElem?_toArray, List.getElem?_cons_zero, List.getElem?_cons_succ]; go_simp; try with_reducible rfl
      try simp only [Act.put, List.setIfInBounds_toArray, List.set_cons_zero, List.set_cons_succ]
      refine held_w (i := 11) (d := some 30) (v := ?_) rfl (by kernel_rfl) (by kernel_rfl) (by kernel_rfl) (fun _ _ _ h => h) (by rfl) ?_ hHeld ?_
      rotate_left
      · intro w' hSw; obtain ⟨q0, q1, q2⟩ := hSw; simp only [List.getElem?_toArray, List.getElem?_cons_zero, List.getElem?_cons_succ]; go_simp; try with_reducible rfl
      try simp only [Act.put, List.setIfInBounds_toArray, List.set_cons_zero, List.set_cons_succ]
      refine held_w (i := 12) (d := some 31) (v := ?_) rfl (by kernel_rfl) (by kernel_rfl) (by kernel_rfl) (fun _ _ _ h => h) (by rfl) ?_ hHeld ?_
      rotate_left
      · intro w' hSw; obtain ⟨q0, q1, q2⟩ := hSw; simp only [List.getElem?_toArray, List.getElem?_cons_zero, List.getElem?_cons_succ]; go_simp; try with_reducible rfl
      try simp only [Act.put, List.setIfInBounds_toArray, List.set_cons_zero, List.set_cons_succ]
      refine held_c (i := 6) (by kernel_rfl) (by rfl) (fun K hK => ?_)
      simp only [List.getElem?_toArray, List.getElem?_cons_zero, List.getElem?_cons_succ]
      go_simp
      refine (C1.out _).mono ?_
      rintro e w2 ⟨rfl, hb2⟩
      refine hK.out _ _ (HS.out _ (hHeld.1.trans (hb2.mono hHeld.1.size))) (fun hHeld => ?_)
      clear hK hb2
      try simp only [Act.put, List.setIfInBounds_toArray, List.set_cons_zero, List.set_cons_succ]
      refine held_w (i := 7) (d := some 26) (v := ?_) rfl (by kernel_rfl) (by kernel_rfl) (by kernel_rfl) (fun _ _ _ h => h) (by rfl) ?_ hHeld ?_
      rotate_left
      · intro w' hSw; obtain ⟨q0, q1, q2⟩ := hSw; simp only [List.getElem?_toArray, List.getElem?_cons_zero, List.getElem?_cons_succ]; go_simp; try with_reducible rfl
      try simp only [Act.put, List.setIfInBounds_toArray, List.set_cons_zero, List.set_cons_succ]
      refine held_c (i := 13) (by kernel_rfl) (by rfl) (fun K hK => ?_)
      simp only [List.getElem?_toArray, List.getElem?_cons_zero, List.getElem?_cons_succ]
      go_simp
      refine (C2.out _).mono ?_
      rintro e w3 ⟨rfl, hb3⟩
      refine hK.out _ _ (HS.out _ (hHeld.1.trans (hb3.mono hHeld.1.size))) (fun hHeld => ?_)
      clear hK hb3
      try simp only [Act.put, List.setIfInBounds_toArray, List.set_cons_zero, List.set_cons_succ]
      refine held_w (i := 14) (d := some 33) (v := ?_) rfl (by kernel_rfl) (by kernel_rfl) (by kernel_rfl) (fun _ _ _ h => h) (by rfl) ?_ hHeld ?_
      rotate_left
      · intro w' hSw; obtain ⟨q0, q1, q2⟩ := hSw; simp only [List.getElem?_toArray, List.getElem?_cons_zero, List.getElem?_cons_succ]; go_simp; try with_reducible rfl
      try simp only [Act.put, List.setIfInBounds_toArray, List.set_cons_zero, List.set_cons_succ]
      refine held_w (i := 15) (d := some 5) (v := ?_) rfl (by kernel_rfl) (by kernel_rfl) (by kernel_rfl) (fun _ _ _ h => h) (by rfl) ?_ hHeld ?_
      rotate_left
      · intro w' hSw; obtain ⟨q0, q1, q2⟩ := hSw; simp only [List.getElem?_toArray, List.getElem?_cons_zero, List.getElem?_cons_succ]; go_simp; try with_reducible rfl
      try simp only [Act.put, List.setIfInBounds_toArray, List.set_cons_zero, List.set_cons_succ]
      refine wpAnyH_done (by kernel_rfl) ?_ _
      have hbz := hHeld.1
      clear hHeld
      go_wp2_with fail
      go_roundw
      case rel => exact ⟨i + 1, _, by omega, by go_num, by rw [HST.out], rfl, hbz⟩
      case measure => simp [intOf]; omega
    · obtain rfl : i = l.length := by omega
      have e := HK.out
      rw [List.take_length, HR.out] at e
      subst e
      go_wp2_with fail
      go_ret2
      exact ⟨rfl, hb⟩
end Go.Proofs.YtejmkboballonaaDoor
