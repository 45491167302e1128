/-
  Layer 8 (frame): the document's sum.
-/
import Derived.Test.YtfhcjlmolneooaaDoorFrameS
import Derived.Test.YtfhcjlmolneooaaDoorZigRef
import Derived.Test.YtfhcjlmolneooaaDoorHeld
import Derived.Test.YtfhcjlmolneooaaDoorProg
import Derived.Deep.RegionHeld3
import Derived.Outline
import Derived.BigQuiet
import Derived.Deep.QuietTactic
import Derived.Deep.RegionWith
import Derived.OpenShut
import Derived.Deep.Onto
import Derived.Lib.Hide
import Derived.IntWalk
import Derived.BigRegion
import Derived.RegionTactic
namespace Go.Proofs.YtfhcjlmolneooaaDoor
open Go.RowKit Go.Deep
attribute [local go_sem] str_size str_append str_toList str_get str_extract
set_option linter.unusedVariables false
set_option linter.unusedSimpArgs false
set_option maxHeartbeats 1000000 in
theorem refCrc_c (s : List UInt8) (w : World) (hs : s.length ≤ 281474976710656) : Calls Tryd.prog 10 #[.string (str s)] w fun e w' => e = .returned (.int .i64 (crcL s)) ∧ Below w.heap.size w w' := by
  go_enter Tryd.func10, Tryd.ntmps10
  go_wp2_with fail
  go_loopw [3, 4] (fun c i wr => ∃ k v : Nat, k ≤ s.length ∧ i = .int .i64 k ∧ c = .int .i64 v ∧ Hid (v = crcL (s.take k)) ∧ v < 65536 ∧ w = wr) (fun _ i _ => s.length - (intOf i).toNat)
  case atStart => exact ⟨0, 65535, Nat.zero_le _, rfl, rfl, by show _ = _; simp [crcL, crcFrom_nil], by omega, rfl⟩
  case round =>
    obtain ⟨k, v, hk, rfl, rfl, HV, hv, rfl⟩ := hrel
    by_cases hlt : k < s.length
    · have hst := crcL_take s k hlt
      rw [← HV.out] at hst
      obtain ⟨x, hx⟩ : ∃ x, (s[k]'hlt).toNat = x := ⟨_, rfl⟩
      have hxl : x < 256 := by rw [← hx]; exact byte_lt _
      rw [hx] at hst
      obtain ⟨t, ht⟩ : ∃ t, v ^^^ (x * 256) = t := ⟨_, rfl⟩
      have htl : t < 65536 := by rw [← ht]; exact xor_lt16 hv (by omega)
      have e1 : bits .xor .i64 (v : Int) ((x : Int) * 256) = (t : Int) := by
        have := i64_xor_small v (x * 256) hv (by omega)
        rw [ht] at this
        rw [← this]; congr 1
      unfold byteT at hst
      rw [ht] at hst
      have HST := Lib.hid hst
      clear hst ht
      go_wp2_with fail
      go_loopw [3, 5] (fun c j wr => ∃ m n : Nat, m ≤ 8 ∧ j = .int .i64 m ∧ c = .int .i64 n ∧ Hid (n = stepsT m t) ∧ n < 65536 ∧ w = wr) (fun _ j _ => 8 - (intOf j).toNat)
      case atStart => exact ⟨0, t, Nat.zero_le _, rfl, rfl, by show _ = _; rfl, htl, rfl⟩
      case round =>
        obtain ⟨m, n, hm, rfl, rfl, HN, hn, rfl⟩ := hrel
        by_cases hlm : m < 8
        · have hst2 : stepsT (m + 1) t = bitT n := by rw [stepsT_add m 1 t, ← HN.out]; rfl
          have hbl := bitT_lt hn
          unfold bitT at hst2 hbl
          by_cases hbig : 65536 ≤ n * 2
          · rw [if_pos hbig] at hst2 hbl
            obtain ⟨u, hu⟩ : ∃ u, (n * 2 - 65536) ^^^ 4129 = u := ⟨_, rfl⟩
            rw [hu] at hst2 hbl
            have e2 : bits .xor .i64 ((n : Int) * 2 - 65536) 4129 = (u : Int) := by
              have := i64_xor_small (n * 2 - 65536) 4129 (by omega) (by omega)
              rw [hu] at this
              rw [← this]
              congr 1
              omega
            have t2 : (65536 : Int) ≤ (n : Int) * 2 := by omega
            have HS2 := Lib.hid hst2
            clear hst2 hu hbig
            go_wp2_with fail
            go_roundw
            case rel => exact ⟨m + 1, u, by omega, by go_num, rfl, HS2.out.symm, hbl, trivial⟩
            case measure => simp [intOf]; omega
          · rw [if_neg hbig] at hst2 hbl
            have t2 : ¬ (65536 : Int) ≤ (n : Int) * 2 := by omega
            have HS2 := Lib.hid hst2
            clear hst2 hbig
            go_wp2_with fail
            go_roundw
            case rel => exact ⟨m + 1, n * 2, by omega, by go_num, by go_num, HS2.out.symm, hbl, trivial⟩
            case measure => simp [intOf]; omega
        · obtain rfl : m = 8 := by omega
          have HE2 : Hid (n = crcL (s.take (k + 1))) := by show _ = _; rw [HST.out]; exact HN.out
          go_wp2_with fail
          go_roundw
          case rel => exact ⟨k + 1, n, by omega, by go_num, rfl, HE2.out, hn, trivial⟩
          case measure => simp [intOf]; omega
    · obtain rfl : k = s.length := by omega
      have e := HV.out
      rw [List.take_length] at e
      have HE := Lib.hid e
      clear e
      go_wp2_with fail
      go_ret
      exact ⟨by rw [HE.out]; rfl, Below.refl _ _⟩
/-- 'string(b)' of a known block of two bytes. -/
theorem conv_two_in {P : Program} (src dst e : TypeId) (hs : P.underlying src = some (.slice e)) (he : P.underlying e = some (.int .u8)) (hd : P.underlying dst = some .string) {W : World} {g : Nat} {a b : Int} {f : Nat × Nat} (h : W.heap[g]? = some (.cells #[.int .u8 a, .int .u8 b] e f)) :
    (convert src dst (.slice (some ⟨g, 0, none⟩) 2 2)).run P W = .ok (.string (str [UInt8.ofNat a.toNat, UInt8.ofNat b.toNat])) W := by
  refine conv_cells W src dst e ⟨g, 0, none⟩ 2 [a, b] hs he hd ?_
  intro j v hv
  match j, hv with
  | 0, hv => simp at hv; subst hv; simp [Addr.add]; exact (cell_of_row W g 0 _ e f h)
  | 1, hv => simp at hv; subst hv; simp [Addr.add]; exact (cell_of_row W g 1 _ e f h)
  | j + 2, hv => simp at hv
set_option maxHeartbeats 1000000 in
theorem refFrame_c (s : List UInt8) (w : World) (hs : s.length ≤ 281474976710656) : Calls Tryd.prog 12 #[.string (str s)] w fun e w' => e = .returned (.string (str (frameL s))) ∧ Below w.heap.size w w' := by
  have C1 := Lib.hid (fun W => refText_c s W (by omega))
  have C := Lib.hid (fun W => refCrc_c s W hs)
  have hc := crcL_lt s
  have hl := tx_len s (by omega)
  obtain ⟨c, hcc⟩ : ∃ c, crcL s = c := ⟨_, rfl⟩
  obtain ⟨T, hT⟩ : ∃ T, tx s = T := ⟨_, rfl⟩
  have hsum : T ++ [UInt8.ofNat (c / 256), UInt8.ofNat (c % 256)] = frameL s := by unfold frameL sumB; rw [hcc, hT]
  rw [hcc] at hc C
  rw [hT] at hl C1
  have HS := Lib.hid hsum
  obtain ⟨p, hp⟩ : ∃ p, c / 256 = p := ⟨_, rfl⟩
  obtain ⟨q, hq⟩ : ∃ q, c % 256 = q := ⟨_, rfl⟩
  rw [hp, hq] at HS
  have d1 : (c : Int) / 256 = (p : Int) := by omega
  have d2 : (c : Int) % 256 = (q : Int) := by omega
  have d3 : IntKind.u8.wrap (IntKind.i64.wrap (p : Int)) = (p : Int) := by rw [IntKind.wrap_u8, IntKind.wrap_i64]; omega
  have d4 : IntKind.u8.wrap ((c : Int).tmod 256) = (q : Int) := by rw [IntKind.wrap_u8, Int.tmod_eq_emod_of_nonneg (by omega)]; omega
  have hs1 : ¬ 9223372036854775807 < T.length + 2 := by omega
  clear hcc hsum hp hq hT
  go_enter Tryd.func12, Tryd.ntmps12
  go_wp2_with (go_at_call 10; refine (C.out _).mono ?_; rintro e w1 ⟨rfl, hb1⟩; have hb1s := hb1.size; dsimp only)
  refine wp_region_held_drew (S := fun wx => Below w1.heap.size w1 wx) (by kernel_rfl) (Below.refl _ w1).drew (fun hHeld => ?_)
  refine wpAnyH_gen (fun Wc hWc => ?_)
  rw [← hWc] at hHeld
  clear hWc
  refine held_w (i := 0) (d := some 6) (v := ?_) rfl (by kernel_rfl) (by kernel_rfl) (by kernel_rfl) (fun _ _ _ h => h) (by rfl) ?_ hHeld ?_
  rotate_left
  · intro w' hSw; obtain ⟨q0⟩ := hSw; simp only [List.getElem?_toArray, List.getElem?_cons_zero, List.getElem?_cons_succ]; go_simp; try with_reducible rfl
  try simp only [Act.put, List.setIfInBounds_toArray, List.set_cons_zero, List.set_cons_succ]
  refine held_w (i := 2) (d := some 8) (v := ?_) rfl (by kernel_rfl) (by kernel_rfl) (by kernel_rfl) (fun _ _ _ h => h) (by rfl) ?_ hHeld ?_
  rotate_left
  · intro w' hSw; obtain ⟨q0⟩ := hSw; simp only [List.getElem?_toArray, List.getElem?_cons_zero, List.getElem?_cons_succ]; go_simp; try with_reducible rfl
  try simp only [Act.put, List.setIfInBounds_toArray, List.set_cons_zero, List.set_cons_succ]
  refine held_w (i := 3) (d := some 9) (v := ?_) rfl (by kernel_rfl) (by kernel_rfl) (by kernel_rfl) (fun _ _ _ h => h) (by rfl) ?_ hHeld ?_
  rotate_left
  · intro w' hSw; obtain ⟨q0⟩ := hSw; simp only [List.getElem?_toArray, List.getElem?_cons_zero, List.getElem?_cons_succ]; go_simp; try with_reducible rfl
  try simp only [Act.put, List.setIfInBounds_toArray, List.set_cons_zero, List.set_cons_succ]
  refine held_w (i := 4) (d := some 10) (v := ?_) rfl (by kernel_rfl) (by kernel_rfl) (by kernel_rfl) (fun _ _ _ h => h) (by rfl) ?_ hHeld ?_
  rotate_left
  · intro w' hSw; obtain ⟨q0⟩ := hSw; simp only [List.getElem?_toArray, List.getElem?_cons_zero, List.getElem?_cons_succ]; go_simp; try with_reducible rfl
  try simp only [Act.put, List.setIfInBounds_toArray, List.set_cons_zero, List.set_cons_succ]
  refine held_w (i := 5) (d := some 11) (v := ?_) rfl (by kernel_rfl) (by kernel_rfl) (by kernel_rfl) (fun _ _ _ h => h) (by rfl) ?_ hHeld ?_
  rotate_left
  · intro w' hSw; obtain ⟨q0⟩ := hSw; simp only [List.getElem?_toArray, List.getElem?_cons_zero, List.getElem?_cons_succ]; go_simp; try with_reducible rfl
  try simp only [Act.put, List.setIfInBounds_toArray, List.set_cons_zero, List.set_cons_succ]
  refine held_w (i := 6) (d := some 12) (v := ?_) rfl (by kernel_rfl) (by kernel_rfl) (by kernel_rfl) (fun _ _ _ h => h) (by rfl) ?_ hHeld ?_
  rotate_left
  · intro w' hSw; obtain ⟨q0⟩ := hSw; simp only [List.getElem?_toArray, List.getElem?_cons_zero, List.getElem?_cons_succ]; go_simp; try with_reducible rfl
  try simp only [Act.put, List.setIfInBounds_toArray, List.set_cons_zero, List.set_cons_succ]
  refine held_w (i := 7) (d := some 13) (v := ?_) rfl (by kernel_rfl) (by kernel_rfl) (by kernel_rfl) (fun _ _ _ h => h) (by rfl) ?_ hHeld ?_
  rotate_left
  · intro w' hSw; obtain ⟨q0⟩ := hSw; simp only [List.getElem?_toArray, List.getElem?_cons_zero, List.getElem?_cons_succ]; go_simp; try with_reducible rfl
  try simp only [Act.put, List.setIfInBounds_toArray, List.set_cons_zero, List.set_cons_succ]
  refine held_many (rs := [1, 8]) (by kernel_rfl) (by simp) ⟨?_, ?_, trivial⟩
  · refine ⟨by rfl, fun K hK => ?_⟩
    simp only [List.getElem?_toArray, List.getElem?_cons_zero, List.getElem?_cons_succ]
    go_simp
    refine (C1.out _).mono ?_
    rintro e Wc ⟨rfl, hk⟩
    refine hK.out _ _ (below2 hHeld hk hHeld.size) (fun hHeld => ?_)
    clear hK K
    try simp only [Act.put, List.setIfInBounds_toArray, List.set_cons_zero, List.set_cons_succ]
    refine held_c (i := 8) (by kernel_rfl) (by rfl) (fun K hK => ?_)
    simp only [List.getElem?_toArray, List.getElem?_cons_zero, List.getElem?_cons_succ]
    go_simp
    have hq := blk_new Wc (.cells #[.int .u8 (p : Int), .int .u8 (q : Int)] 5)
    have hcv := conv_two_in (P := Tryd.prog) 32 9 5 Tryd.underlying32 Tryd.underlying5 Tryd.underlying9 hq
    simp only [Int.toNat_natCast] at hcv
    refine hK.out _ _ (hHeld.alloc hHeld.size _) (fun hHeld => ?_)
    clear hK K
    refine wpAnyH_gen (fun Wd hWd => ?_)
    rw [← hWd] at hHeld hq hcv
    clear hWd
    try simp only [Act.put, List.setIfInBounds_toArray, List.set_cons_zero, List.set_cons_succ]
    refine held_c (i := 9) (by kernel_rfl) (by rfl) (fun K hK => ?_)
    simp only [List.getElem?_toArray, List.getElem?_cons_zero, List.getElem?_cons_succ]
    go_simp
    refine hK.out _ _ hHeld (fun hHeld => ?_)
    clear hK K
    try simp only [Act.put, List.setIfInBounds_toArray, List.set_cons_zero, List.set_cons_succ]
    refine held_w (i := 10) (d := some 16) (v := ?_) rfl (by kernel_rfl) (by kernel_rfl) (by kernel_rfl) (fun _ _ _ h => h) (by rfl) ?_ hHeld ?_
    rotate_left
    · intro w' hSw; obtain ⟨q0⟩ := hSw; simp only [List.getElem?_toArray, List.getElem?_cons_zero, List.getElem?_cons_succ]; go_simp; try with_reducible rfl
    try simp only [Act.put, List.setIfInBounds_toArray, List.set_cons_zero, List.set_cons_succ]
    refine held_w (i := 11) (d := some 2) (v := ?_) rfl (by kernel_rfl) (by kernel_rfl) (by kernel_rfl) (fun _ _ _ h => h) (by rfl) ?_ hHeld ?_
    rotate_left
    · intro w' hSw; obtain ⟨q0⟩ := hSw; simp only [List.getElem?_toArray, List.getElem?_cons_zero, List.getElem?_cons_succ]; go_simp; try with_reducible rfl
    try simp only [Act.put, List.setIfInBounds_toArray, List.set_cons_zero, List.set_cons_succ]
    refine wpAnyH_done (by kernel_rfl) ?_ _
    go_wp2_with fail
    go_ret
    exact ⟨ret_str HS.out, below2 hb1 hHeld hb1.size⟩
  · refine ⟨by rfl, fun K hK => ?_⟩
    simp only [List.getElem?_toArray, List.getElem?_cons_zero, List.getElem?_cons_succ]
    go_simp
    have hq := blk_new Wc (.cells #[.int .u8 (p : Int), .int .u8 (q : Int)] 5)
    have hcv := conv_two_in (P := Tryd.prog) 32 9 5 Tryd.underlying32 Tryd.underlying5 Tryd.underlying9 hq
    simp only [Int.toNat_natCast] at hcv
    refine hK.out _ _ (hHeld.alloc hHeld.size _) (fun hHeld => ?_)
    clear hK K
    refine wpAnyH_gen (fun Wd hWd => ?_)
    rw [← hWd] at hHeld hq hcv
    clear hWd
    try simp only [Act.put, List.setIfInBounds_toArray, List.set_cons_zero, List.set_cons_succ]
    refine held_many (rs := [1, 9]) (by kernel_rfl) (by simp) ⟨?_, ?_, trivial⟩
    · refine ⟨by rfl, fun K hK => ?_⟩
      simp only [List.getElem?_toArray, List.getElem?_cons_zero, List.getElem?_cons_succ]
      go_simp
      refine (C1.out _).mono ?_
      rintro e Wc ⟨rfl, hk⟩
      have hq := (hk.block _ (lt_of_block hq)).trans hq
      have hcv := conv_two_in (P := Tryd.prog) 32 9 5 Tryd.underlying32 Tryd.underlying5 Tryd.underlying9 hq
      simp only [Int.toNat_natCast] at hcv
      refine hK.out _ _ (below2 hHeld hk hHeld.size) (fun hHeld => ?_)
      clear hK K
      try simp only [Act.put, List.setIfInBounds_toArray, List.set_cons_zero, List.set_cons_succ]
      refine held_c (i := 9) (by kernel_rfl) (by rfl) (fun K hK => ?_)
      simp only [List.getElem?_toArray, List.getElem?_cons_zero, List.getElem?_cons_succ]
      go_simp
      refine hK.out _ _ hHeld (fun hHeld => ?_)
      clear hK K
      try simp only [Act.put, List.setIfInBounds_toArray, List.set_cons_zero, List.set_cons_succ]
      refine held_w (i := 10) (d := some 16) (v := ?_) rfl (by kernel_rfl) (by kernel_rfl) (by kernel_rfl) (fun _ _ _ h => h) (by rfl) ?_ hHeld ?_
      rotate_left
      · intro w' hSw; obtain ⟨q0⟩ := hSw; simp only [List.getElem?_toArray, List.getElem?_cons_zero, List.getElem?_cons_succ]; go_simp; try with_reducible rfl
      try simp only [Act.put, List.setIfInBounds_toArray, List.set_cons_zero, List.set_cons_succ]
      refine held_w (i := 11) (d := some 2) (v := ?_) rfl (by kernel_rfl) (by kernel_rfl) (by kernel_rfl) (fun _ _ _ h => h) (by rfl) ?_ hHeld ?_
      rotate_left
      · intro w' hSw; obtain ⟨q0⟩ := hSw; simp only [List.getElem?_toArray, List.getElem?_cons_zero, List.getElem?_cons_succ]; go_simp; try with_reducible rfl
      try simp only [Act.put, List.setIfInBounds_toArray, List.set_cons_zero, List.set_cons_succ]
      refine wpAnyH_done (by kernel_rfl) ?_ _
      go_wp2_with fail
      go_ret
      exact ⟨ret_str HS.out, below2 hb1 hHeld hb1.size⟩
    · refine ⟨by rfl, fun K hK => ?_⟩
      simp only [List.getElem?_toArray, List.getElem?_cons_zero, List.getElem?_cons_succ]
      go_simp
      refine hK.out _ _ hHeld (fun hHeld => ?_)
      clear hK K
      try simp only [Act.put, List.setIfInBounds_toArray, List.set_cons_zero, List.set_cons_succ]
      refine held_c (i := 1) (by kernel_rfl) (by rfl) (fun K hK => ?_)
      simp only [List.getElem?_toArray, List.getElem?_cons_zero, List.getElem?_cons_succ]
      go_simp
      refine (C1.out _).mono ?_
      rintro e Wc ⟨rfl, hk⟩
      have hq := (hk.block _ (lt_of_block hq)).trans hq
      have hcv := conv_two_in (P := Tryd.prog) 32 9 5 Tryd.underlying32 Tryd.underlying5 Tryd.underlying9 hq
      simp only [Int.toNat_natCast] at hcv
      refine hK.out _ _ (below2 hHeld hk hHeld.size) (fun hHeld => ?_)
      clear hK K
      try simp only [Act.put, List.setIfInBounds_toArray, List.set_cons_zero, List.set_cons_succ]
      refine held_w (i := 10) (d := some 16) (v := ?_) rfl (by kernel_rfl) (by kernel_rfl) (by kernel_rfl) (fun _ _ _ h => h) (by rfl) ?_ hHeld ?_
      rotate_left
      · intro w' hSw; obtain ⟨q0⟩ := hSw; simp only [List.getElem?_toArray, List.getElem?_cons_zero, List.getElem?_cons_succ]; go_simp; try with_reducible rfl
      try simp only [Act.put, List.setIfInBounds_toArray, List.set_cons_zero, List.set_cons_succ]
      refine held_w (i := 11) (d := some 2) (v := ?_) rfl (by kernel_rfl) (by kernel_rfl) (by kernel_rfl) (fun _ _ _ h => h) (by rfl) ?_ hHeld ?_
      rotate_left
      · intro w' hSw; obtain ⟨q0⟩ := hSw; simp only [List.getElem?_toArray, List.getElem?_cons_zero, List.getElem?_cons_succ]; go_simp; try with_reducible rfl
      try simp only [Act.put, List.setIfInBounds_toArray, List.set_cons_zero, List.set_cons_succ]
      refine wpAnyH_done (by kernel_rfl) ?_ _
      go_wp2_with fail
      go_ret
      exact ⟨ret_str HS.out, below2 hb1 hHeld hb1.size⟩
theorem frame_len_at {s t : List UInt8} {a k : Nat} (ha : a ≤ k) (hk : k ≤ s.length) (h : s.take k = s.take a ++ tx t) : (frameL t).length = k + 2 - a := by
  have := congrArg List.length h
  rw [List.length_append, List.length_take, List.length_take] at this
  rw [frameL_len]; omega
set_option maxRecDepth 100000 in
set_option maxHeartbeats 2000000 in
theorem refScan_c (s : List UInt8) (w : World) (hs : s.length ≤ 1000000) :
    Calls Tryd.prog 14 #[.string (str s)] w fun e w' => ScanF s w.heap.size e w' ∧ Below w.heap.size w w' := by
  go_enter Tryd.func14, Tryd.ntmps14
  go_wp2_with fail
  go_loopw [4, 5] (fun v c wr => ∃ (a : Nat) (L : List Byts) (A : Option Addr) (cap : Nat), c = .int .i64 a ∧ v = .slice A L.length cap ∧ a ≤ s.length ∧ Hid (NewT w.heap.size (.slice A L.length cap) L wr) ∧ Hid (Upto s L a) ∧ Below w.heap.size w wr) (fun _ c _ => s.length - (intOf c).toNat)
  case atStart => exact ⟨0, [], _, _, rfl, rfl, Nat.zero_le _, NewT.empty w _ (Nat.le_refl _), Upto.start s, (Below.refl _ w).alloc (Nat.le_refl _) _⟩
  case round =>
    obtain ⟨a, L, A, cap, rfl, rfl, ha, HN, HU, hb⟩ := hrel
    have hbs := hb.size
    have hfew := HU.out.few
    obtain ⟨t, nx, er, hg⟩ : ∃ t nx er, getT s a = (t, nx, er) := ⟨_, _, _, rfl⟩
    have C1 := Lib.hid (fun W => refGetText_c s a t nx er W (by omega) (by omega) (by omega) hg)
    have hlen : s.length - (s.drop a).length = a := by rw [List.length_drop]; omega
    have HL := Lib.hid hlen
    clear hlen
    by_cases he : er = 0
    · subst he
      obtain ⟨k, rfl, k1, k2, k3⟩ := getT_at hg
      have e1 := frame_at k1 k2 k3
      have hfl := frame_len_at k1 k2 k3
      have htl : t.length ≤ 1000000 := by
        have := congrArg List.length e1
        have h2 := tx_long t
        rw [List.length_drop, List.length_append] at this
        omega
      have ht : Short t := by show _ < _; omega
      by_cases hroom : s.length < k + 2
      · have hn : NoF (s.drop a) := fun b q hq e => by
          have h1 := e
          rw [e1] at h1
          unfold frameL at h1
          rw [List.append_assoc] at h1
          obtain ⟨rfl, _⟩ := txF_inj ht hq h1
          have := congrArg List.length e
          rw [List.length_drop, List.length_append] at this
          omega
        have HS := Lib.hid (HU.out.scans hn)
        have t1 : decide ((s.length : Int) < (k : Int) + 2) = true := by simpa using by omega
        have t2 : (s.length : Int) < (k : Int) + 2 := by omega
        clear hn e1 hfl htl ht k3 hg
        go_wp2_with (go_at_call 22; refine (C1.out _).mono ?_; rintro e w1 ⟨rfl, hb1⟩; have hb2 := below2 hb hb1 hbs; have HN2 := Lib.hid (HN.out.below hb1); dsimp only)
        go_quiet (fail)
        go_wp2_with fail
        go_ret2
        exact ⟨⟨_, L, _, by rw [HL.out]; rfl, HS.out, HN2.out.drewN _⟩, below_drewN hb2 _⟩
      · have t1 : decide ((s.length : Int) < (k : Int) + 2) = false := by simpa using by omega
        have t2 : ¬ (s.length : Int) < (k : Int) + 2 := by omega
        have CF := Lib.hid (fun W => refFrame_c t W (by omega))
        obtain ⟨F, hF⟩ : ∃ F, frameL t = F := ⟨_, rfl⟩
        obtain ⟨D, hD⟩ : ∃ D, (s.drop a).take (k + 2 - a) = D := ⟨_, rfl⟩
        have s1 : IntKind.i64.wrap ((k : Int) + 2) = (k : Int) + 2 := IntWalk.i64_in _ (by omega)
        have hsl := fun (W : World) => run_slice_string (P := Tryd.prog) W 9 (str s) .i64 .i64 (a : Int) ((k : Int) + 2) Tryd.underlying9 (by omega) (by omega) (by rw [str_size]; omega)
        simp only [str_extract, Int.toNat_natCast, show ((k : Int) + 2).toNat - a = k + 2 - a by omega, hD] at hsl
        by_cases hq : F = D
        · have t3 : (F == D) = true := by simpa using hq
          have he : s.drop a = frameL t ++ (s.drop a).drop (k + 2 - a) := by rw [hF, hq, ← hD, List.take_append_drop]
          have hnu := HU.out.next ht he
          rw [hF] at CF
          have hkK : a + (frameL t).length = k + 2 := by rw [hfl]; omega
          rw [hkK] at hnu
          have hkl := hnu.2.2
          have HNU := Lib.hid hnu
          clear hnu he ht k3 hg e1 hfl hF hD hkK hq
          go_wp2_with (go_at_call 22; refine (C1.out _).mono ?_; rintro e w1 ⟨rfl, hb1⟩; have hb2 := below2 hb hb1 hbs; have HN2 := Lib.hid (HN.out.below hb1); dsimp only)
          refine wp_region_held_drew (S := fun wx => Below w1.heap.size w1 wx) (by kernel_rfl) (Below.refl _ w1).drew (fun hHeld => ?_)
          refine wpAnyH_gen (fun Wc hWc => ?_)
          rw [← hWc] at hHeld
          clear hWc
          refine held_w (i := 0) (d := some 17) (v := ?_) rfl (by kernel_rfl) (by kernel_rfl) (by kernel_rfl) (fun _ _ _ h => h) (by rfl) ?_ hHeld ?_
          rotate_left
          · intro w' hSw; obtain ⟨q0⟩ := hSw; simp only [List.getElem?_toArray, List.getElem?_cons_zero, List.getElem?_cons_succ]; go_simp; try with_reducible rfl
          try simp only [Act.put, List.setIfInBounds_toArray, List.set_cons_zero, List.set_cons_succ]
          refine held_w (i := 1) (d := some 18) (v := ?_) rfl (by kernel_rfl) (by kernel_rfl) (by kernel_rfl) (fun _ _ _ h => h) (by rfl) ?_ hHeld ?_
          rotate_left
          · intro w' hSw; obtain ⟨q0⟩ := hSw; simp only [List.getElem?_toArray, List.getElem?_cons_zero, List.getElem?_cons_succ]; go_simp; try with_reducible rfl
          try simp only [Act.put, List.setIfInBounds_toArray, List.set_cons_zero, List.set_cons_succ]
          refine held_w (i := 2) (d := some 19) (v := ?_) rfl (by kernel_rfl) (by kernel_rfl) (by kernel_rfl) (fun _ _ _ h => h) (by rfl) ?_ hHeld ?_
          rotate_left
          · intro w' hSw; obtain ⟨q0⟩ := hSw; simp only [List.getElem?_toArray, List.getElem?_cons_zero, List.getElem?_cons_succ]; go_simp; try with_reducible rfl
          try simp only [Act.put, List.setIfInBounds_toArray, List.set_cons_zero, List.set_cons_succ]
          refine held_w (i := 3) (d := some 20) (v := ?_) rfl (by kernel_rfl) (by kernel_rfl) (by kernel_rfl) (fun _ _ _ h => h) (by rfl) ?_ hHeld ?_
          rotate_left
          · intro w' hSw; obtain ⟨q0⟩ := hSw; simp only [List.getElem?_toArray, List.getElem?_cons_zero, List.getElem?_cons_succ]; go_simp; try with_reducible rfl
          try simp only [Act.put, List.setIfInBounds_toArray, List.set_cons_zero, List.set_cons_succ]
          refine held_w (i := 4) (d := some 21) (v := ?_) rfl (by kernel_rfl) (by kernel_rfl) (by kernel_rfl) (fun _ _ _ h => h) (by rfl) ?_ hHeld ?_
          rotate_left
          · intro w' hSw; obtain ⟨q0⟩ := hSw; simp only [List.getElem?_toArray, List.getElem?_cons_zero, List.getElem?_cons_succ]; go_simp; try with_reducible rfl
          try simp only [Act.put, List.setIfInBounds_toArray, List.set_cons_zero, List.set_cons_succ]
          refine held_w (i := 5) (d := some 22) (v := ?_) rfl (by kernel_rfl) (by kernel_rfl) (by kernel_rfl) (fun _ _ _ h => h) (by rfl) ?_ hHeld ?_
          rotate_left
          · intro w' hSw; obtain ⟨q0⟩ := hSw; simp only [List.getElem?_toArray, List.getElem?_cons_zero, List.getElem?_cons_succ]; go_simp; try with_reducible rfl
          try simp only [Act.put, List.setIfInBounds_toArray, List.set_cons_zero, List.set_cons_succ]
          refine held_w (i := 6) (d := some 23) (v := ?_) rfl (by kernel_rfl) (by kernel_rfl) (by kernel_rfl) (fun _ _ _ h => h) (by rfl) ?_ hHeld ?_
          rotate_left
          · intro w' hSw; obtain ⟨q0⟩ := hSw; simp only [List.getElem?_toArray, List.getElem?_cons_zero, List.getElem?_cons_succ]; go_simp; try with_reducible rfl
          try simp only [Act.put, List.setIfInBounds_toArray, List.set_cons_zero, List.set_cons_succ]
          refine held_w (i := 7) (d := some 24) (v := ?_) rfl (by kernel_rfl) (by kernel_rfl) (by kernel_rfl) (fun _ _ _ h => h) (by rfl) ?_ hHeld ?_
          rotate_left
          · intro w' hSw; obtain ⟨q0⟩ := hSw; simp only [List.getElem?_toArray, List.getElem?_cons_zero, List.getElem?_cons_succ]; go_simp; try with_reducible rfl
          try simp only [Act.put, List.setIfInBounds_toArray, List.set_cons_zero, List.set_cons_succ]
          refine held_w (i := 8) (d := some 25) (v := ?_) rfl (by kernel_rfl) (by kernel_rfl) (by kernel_rfl) (fun _ _ _ h => h) (by rfl) ?_ hHeld ?_
          rotate_left
          · intro w' hSw; obtain ⟨q0⟩ := hSw; simp only [List.getElem?_toArray, List.getElem?_cons_zero, List.getElem?_cons_succ]; go_simp; try with_reducible rfl
          try simp only [Act.put, List.setIfInBounds_toArray, List.set_cons_zero, List.set_cons_succ]
          refine held_w (i := 9) (d := some 26) (v := ?_) rfl (by kernel_rfl) (by kernel_rfl) (by kernel_rfl) (fun _ _ _ h => h) (by rfl) ?_ hHeld ?_
          rotate_left
          · intro w' hSw; obtain ⟨q0⟩ := hSw; simp only [List.getElem?_toArray, List.getElem?_cons_zero, List.getElem?_cons_succ]; go_simp; try with_reducible rfl
          try simp only [Act.put, List.setIfInBounds_toArray, List.set_cons_zero, List.set_cons_succ]
          refine held_w (i := 10) (d := some 27) (v := ?_) rfl (by kernel_rfl) (by kernel_rfl) (by kernel_rfl) (fun _ _ _ h => h) (by rfl) ?_ hHeld ?_
          rotate_left
          · intro w' hSw; obtain ⟨q0⟩ := hSw; simp only [List.getElem?_toArray, List.getElem?_cons_zero, List.getElem?_cons_succ]; go_simp; try with_reducible rfl
          try simp only [Act.put, List.setIfInBounds_toArray, List.set_cons_zero, List.set_cons_succ]
          refine held_w (i := 12) (d := some 29) (v := ?_) rfl (by kernel_rfl) (by kernel_rfl) (by kernel_rfl) (fun _ _ _ h => h) (by rfl) ?_ hHeld ?_
          rotate_left
          · intro w' hSw; obtain ⟨q0⟩ := hSw; simp only [List.getElem?_toArray, List.getElem?_cons_zero, List.getElem?_cons_succ]; go_simp; try with_reducible rfl
          try simp only [Act.put, List.setIfInBounds_toArray, List.set_cons_zero, List.set_cons_succ]
          refine held_w (i := 13) (d := some 30) (v := ?_) rfl (by kernel_rfl) (by kernel_rfl) (by kernel_rfl) (fun _ _ _ h => h) (by rfl) ?_ hHeld ?_
          rotate_left
          · intro w' hSw; obtain ⟨q0⟩ := hSw; simp only [List.getElem?_toArray, List.getElem?_cons_zero, List.getElem?_cons_succ]; go_simp; try with_reducible rfl
          try simp only [Act.put, List.setIfInBounds_toArray, List.set_cons_zero, List.set_cons_succ]
          refine held_w (i := 14) (d := some 31) (v := ?_) rfl (by kernel_rfl) (by kernel_rfl) (by kernel_rfl) (fun _ _ _ h => h) (by rfl) ?_ hHeld ?_
          rotate_left
          · intro w' hSw; obtain ⟨q0⟩ := hSw; simp only [List.getElem?_toArray, List.getElem?_cons_zero, List.getElem?_cons_succ]; go_simp; try with_reducible rfl
          try simp only [Act.put, List.setIfInBounds_toArray, List.set_cons_zero, List.set_cons_succ]
          refine held_w (i := 15) (d := some 32) (v := ?_) rfl (by kernel_rfl) (by kernel_rfl) (by kernel_rfl) (fun _ _ _ h => h) (by rfl) ?_ hHeld ?_
          rotate_left
          · intro w' hSw; obtain ⟨q0⟩ := hSw; simp only [List.getElem?_toArray, List.getElem?_cons_zero, List.getElem?_cons_succ]; go_simp; try with_reducible rfl
          try simp only [Act.put, List.setIfInBounds_toArray, List.set_cons_zero, List.set_cons_succ]
          refine held_w (i := 16) (d := some 33) (v := ?_) rfl (by kernel_rfl) (by kernel_rfl) (by kernel_rfl) (fun _ _ _ h => h) (by rfl) ?_ hHeld ?_
          rotate_left
          · intro w' hSw; obtain ⟨q0⟩ := hSw; simp only [List.getElem?_toArray, List.getElem?_cons_zero, List.getElem?_cons_succ]; go_simp; try with_reducible rfl
          try simp only [Act.put, List.setIfInBounds_toArray, List.set_cons_zero, List.set_cons_succ]
          refine held_c (i := 11) (by kernel_rfl) (by rfl) (fun K hK => ?_)
          simp only [List.getElem?_toArray, List.getElem?_cons_zero, List.getElem?_cons_succ]
          go_simp
          refine (CF.out _).mono ?_
          rintro e Wc ⟨rfl, hk⟩
          refine hK.out _ _ (below2 hHeld hk hHeld.size) (fun hHeld => ?_)
          clear hK K
          try simp only [Act.put, List.setIfInBounds_toArray, List.set_cons_zero, List.set_cons_succ]
          refine held_w (i := 17) (d := some 34) (v := ?_) rfl (by kernel_rfl) (by kernel_rfl) (by kernel_rfl) (fun _ _ _ h => h) (by rfl) ?_ hHeld ?_
          rotate_left
          · intro w' hSw; obtain ⟨q0⟩ := hSw; simp only [List.getElem?_toArray, List.getElem?_cons_zero, List.getElem?_cons_succ]; go_simp; try with_reducible rfl
          try simp only [Act.put, List.setIfInBounds_toArray, List.set_cons_zero, List.set_cons_succ]
          refine held_w (i := 18) (d := some 35) (v := ?_) rfl (by kernel_rfl) (by kernel_rfl) (by kernel_rfl) (fun _ _ _ h => h) (by rfl) ?_ hHeld ?_
          rotate_left
          · intro w' hSw; obtain ⟨q0⟩ := hSw; simp only [List.getElem?_toArray, List.getElem?_cons_zero, List.getElem?_cons_succ]; go_simp; try with_reducible rfl
          try simp only [Act.put, List.setIfInBounds_toArray, List.set_cons_zero, List.set_cons_succ]
          refine wpAnyH_done (by kernel_rfl) ?_ _
          have hb3 := below2 hb2 hHeld hb2.size
          have hb3s := hb3.size
          have HN3 := Lib.hid (HN2.out.below hHeld)
          go_wp2_with (at_builtin; refine app_txt rfl (.tmp 38) (.tmp 40) rfl rfl HN3.out t rfl rfl (by omega) (by omega) hb3s ?c1)
          case c1 =>
            intro A3 cap3 w3 L3 HL hN3 hb4
            have hb5 := hb3.trans hb4
            have HN4 := Lib.hid hN3
            clear hN3
            go_wp2_with fail
            go_roundw
            case rel => exact ⟨k + 2, L3, A3, cap3, by go_num, rfl, hkl, HN4.out, by show Upto _ _ _; rw [HL.out]; exact HNU.out, hb5⟩
            case measure => simp [intOf]; omega
        · have t3 : (F == D) = false := by simpa using hq
          have hn : NoF (s.drop a) := fun b q hb e => by
            have h1 := e
            rw [e1] at h1
            unfold frameL at h1
            rw [List.append_assoc] at h1
            obtain ⟨rfl, _⟩ := txF_inj ht hb h1
            apply hq
            rw [← hF, ← hD, e, ← hfl, List.take_left]
          have HS := Lib.hid (HU.out.scans hn)
          rw [hF] at CF
          clear hn ht k3 hg e1 hfl hF hD hq
          go_wp2_with (go_at_call 22; refine (C1.out _).mono ?_; rintro e w1 ⟨rfl, hb1⟩; have hb2 := below2 hb hb1 hbs; have HN2 := Lib.hid (HN.out.below hb1); dsimp only)
          refine wp_region_held_drew (S := fun wx => Below w1.heap.size w1 wx) (by kernel_rfl) (Below.refl _ w1).drew (fun hHeld => ?_)
          refine wpAnyH_gen (fun Wc hWc => ?_)
          rw [← hWc] at hHeld
          clear hWc
          refine held_w (i := 0) (d := some 17) (v := ?_) rfl (by kernel_rfl) (by kernel_rfl) (by kernel_rfl) (fun _ _ _ h => h) (by rfl) ?_ hHeld ?_
          rotate_left
          · intro w' hSw; obtain ⟨q0⟩ := hSw; simp only [List.getElem?_toArray, List.getElem?_cons_zero, List.getElem?_cons_succ]; go_simp; try with_reducible rfl
          try simp only [Act.put, List.setIfInBounds_toArray, List.set_cons_zero, List.set_cons_succ]
          refine held_w (i := 1) (d := some 18) (v := ?_) rfl (by kernel_rfl) (by kernel_rfl) (by kernel_rfl) (fun _ _ _ h => h) (by rfl) ?_ hHeld ?_
          rotate_left
          · intro w' hSw; obtain ⟨q0⟩ := hSw; simp only [List.getElem?_toArray, List.getElem?_cons_zero, List.getElem?_cons_succ]; go_simp; try with_reducible rfl
          try simp only [Act.put, List.setIfInBounds_toArray, List.set_cons_zero, List.set_cons_succ]
          refine held_w (i := 2) (d := some 19) (v := ?_) rfl (by kernel_rfl) (by kernel_rfl) (by kernel_rfl) (fun _ _ _ h => h) (by rfl) ?_ hHeld ?_
          rotate_left
          · intro w' hSw; obtain ⟨q0⟩ := hSw; simp only [List.getElem?_toArray, List.getElem?_cons_zero, List.getElem?_cons_succ]; go_simp; try with_reducible rfl
          try simp only [Act.put, List.setIfInBounds_toArray, List.set_cons_zero, List.set_cons_succ]
          refine held_w (i := 3) (d := some 20) (v := ?_) rfl (by kernel_rfl) (by kernel_rfl) (by kernel_rfl) (fun _ _ _ h => h) (by rfl) ?_ hHeld ?_
          rotate_left
          · intro w' hSw; obtain ⟨q0⟩ := hSw; simp only [List.getElem?_toArray, List.getElem?_cons_zero, List.getElem?_cons_succ]; go_simp; try with_reducible rfl
          try simp only [Act.put, List.setIfInBounds_toArray, List.set_cons_zero, List.set_cons_succ]
          refine held_w (i := 4) (d := some 21) (v := ?_) rfl (by kernel_rfl) (by kernel_rfl) (by kernel_rfl) (fun _ _ _ h => h) (by rfl) ?_ hHeld ?_
          rotate_left
          · intro w' hSw; obtain ⟨q0⟩ := hSw; simp only [List.getElem?_toArray, List.getElem?_cons_zero, List.getElem?_cons_succ]; go_simp; try with_reducible rfl
          try simp only [Act.put, List.setIfInBounds_toArray, List.set_cons_zero, List.set_cons_succ]
          refine held_w (i := 5) (d := some 22) (v := ?_) rfl (by kernel_rfl) (by kernel_rfl) (by kernel_rfl) (fun _ _ _ h => h) (by rfl) ?_ hHeld ?_
          rotate_left
          · intro w' hSw; obtain ⟨q0⟩ := hSw; simp only [List.getElem?_toArray, List.getElem?_cons_zero, List.getElem?_cons_succ]; go_simp; try with_reducible rfl
          try simp only [Act.put, List.setIfInBounds_toArray, List.set_cons_zero, List.set_cons_succ]
          refine held_w (i := 6) (d := some 23) (v := ?_) rfl (by kernel_rfl) (by kernel_rfl) (by kernel_rfl) (fun _ _ _ h => h) (by rfl) ?_ hHeld ?_
          rotate_left
          · intro w' hSw; obtain ⟨q0⟩ := hSw; simp only [List.getElem?_toArray, List.getElem?_cons_zero, List.getElem?_cons_succ]; go_simp; try with_reducible rfl
          try simp only [Act.put, List.setIfInBounds_toArray, List.set_cons_zero, List.set_cons_succ]
          refine held_w (i := 7) (d := some 24) (v := ?_) rfl (by kernel_rfl) (by kernel_rfl) (by kernel_rfl) (fun _ _ _ h => h) (by rfl) ?_ hHeld ?_
          rotate_left
          · intro w' hSw; obtain ⟨q0⟩ := hSw; simp only [List.getElem?_toArray, List.getElem?_cons_zero, List.getElem?_cons_succ]; go_simp; try with_reducible rfl
          try simp only [Act.put, List.setIfInBounds_toArray, List.set_cons_zero, List.set_cons_succ]
          refine held_w (i := 8) (d := some 25) (v := ?_) rfl (by kernel_rfl) (by kernel_rfl) (by kernel_rfl) (fun _ _ _ h => h) (by rfl) ?_ hHeld ?_
          rotate_left
          · intro w' hSw; obtain ⟨q0⟩ := hSw; simp only [List.getElem?_toArray, List.getElem?_cons_zero, List.getElem?_cons_succ]; go_simp; try with_reducible rfl
          try simp only [Act.put, List.setIfInBounds_toArray, List.set_cons_zero, List.set_cons_succ]
          refine held_w (i := 9) (d := some 26) (v := ?_) rfl (by kernel_rfl) (by kernel_rfl) (by kernel_rfl) (fun _ _ _ h => h) (by rfl) ?_ hHeld ?_
          rotate_left
          · intro w' hSw; obtain ⟨q0⟩ := hSw; simp only [List.getElem?_toArray, List.getElem?_cons_zero, List.getElem?_cons_succ]; go_simp; try with_reducible rfl
          try simp only [Act.put, List.setIfInBounds_toArray, List.set_cons_zero, List.set_cons_succ]
          refine held_w (i := 10) (d := some 27) (v := ?_) rfl (by kernel_rfl) (by kernel_rfl) (by kernel_rfl) (fun _ _ _ h => h) (by rfl) ?_ hHeld ?_
          rotate_left
          · intro w' hSw; obtain ⟨q0⟩ := hSw; simp only [List.getElem?_toArray, List.getElem?_cons_zero, List.getElem?_cons_succ]; go_simp; try with_reducible rfl
          try simp only [Act.put, List.setIfInBounds_toArray, List.set_cons_zero, List.set_cons_succ]
          refine held_w (i := 12) (d := some 29) (v := ?_) rfl (by kernel_rfl) (by kernel_rfl) (by kernel_rfl) (fun _ _ _ h => h) (by rfl) ?_ hHeld ?_
          rotate_left
          · intro w' hSw; obtain ⟨q0⟩ := hSw; simp only [List.getElem?_toArray, List.getElem?_cons_zero, List.getElem?_cons_succ]; go_simp; try with_reducible rfl
          try simp only [Act.put, List.setIfInBounds_toArray, List.set_cons_zero, List.set_cons_succ]
          refine held_w (i := 13) (d := some 30) (v := ?_) rfl (by kernel_rfl) (by kernel_rfl) (by kernel_rfl) (fun _ _ _ h => h) (by rfl) ?_ hHeld ?_
          rotate_left
          · intro w' hSw; obtain ⟨q0⟩ := hSw; simp only [List.getElem?_toArray, List.getElem?_cons_zero, List.getElem?_cons_succ]; go_simp; try with_reducible rfl
          try simp only [Act.put, List.setIfInBounds_toArray, List.set_cons_zero, List.set_cons_succ]
          refine held_w (i := 14) (d := some 31) (v := ?_) rfl (by kernel_rfl) (by kernel_rfl) (by kernel_rfl) (fun _ _ _ h => h) (by rfl) ?_ hHeld ?_
          rotate_left
          · intro w' hSw; obtain ⟨q0⟩ := hSw; simp only [List.getElem?_toArray, List.getElem?_cons_zero, List.getElem?_cons_succ]; go_simp; try with_reducible rfl
          try simp only [Act.put, List.setIfInBounds_toArray, List.set_cons_zero, List.set_cons_succ]
          refine held_w (i := 15) (d := some 32) (v := ?_) rfl (by kernel_rfl) (by kernel_rfl) (by kernel_rfl) (fun _ _ _ h => h) (by rfl) ?_ hHeld ?_
          rotate_left
          · intro w' hSw; obtain ⟨q0⟩ := hSw; simp only [List.getElem?_toArray, List.getElem?_cons_zero, List.getElem?_cons_succ]; go_simp; try with_reducible rfl
          try simp only [Act.put, List.setIfInBounds_toArray, List.set_cons_zero, List.set_cons_succ]
          refine held_w (i := 16) (d := some 33) (v := ?_) rfl (by kernel_rfl) (by kernel_rfl) (by kernel_rfl) (fun _ _ _ h => h) (by rfl) ?_ hHeld ?_
          rotate_left
          · intro w' hSw; obtain ⟨q0⟩ := hSw; simp only [List.getElem?_toArray, List.getElem?_cons_zero, List.getElem?_cons_succ]; go_simp; try with_reducible rfl
          try simp only [Act.put, List.setIfInBounds_toArray, List.set_cons_zero, List.set_cons_succ]
          refine held_c (i := 11) (by kernel_rfl) (by rfl) (fun K hK => ?_)
          simp only [List.getElem?_toArray, List.getElem?_cons_zero, List.getElem?_cons_succ]
          go_simp
          refine (CF.out _).mono ?_
          rintro e Wc ⟨rfl, hk⟩
          refine hK.out _ _ (below2 hHeld hk hHeld.size) (fun hHeld => ?_)
          clear hK K
          try simp only [Act.put, List.setIfInBounds_toArray, List.set_cons_zero, List.set_cons_succ]
          refine held_w (i := 17) (d := some 34) (v := ?_) rfl (by kernel_rfl) (by kernel_rfl) (by kernel_rfl) (fun _ _ _ h => h) (by rfl) ?_ hHeld ?_
          rotate_left
          · intro w' hSw; obtain ⟨q0⟩ := hSw; simp only [List.getElem?_toArray, List.getElem?_cons_zero, List.getElem?_cons_succ]; go_simp; try with_reducible rfl
          try simp only [Act.put, List.setIfInBounds_toArray, List.set_cons_zero, List.set_cons_succ]
          refine held_w (i := 18) (d := some 35) (v := ?_) rfl (by kernel_rfl) (by kernel_rfl) (by kernel_rfl) (fun _ _ _ h => h) (by rfl) ?_ hHeld ?_
          rotate_left
          · intro w' hSw; obtain ⟨q0⟩ := hSw; simp only [List.getElem?_toArray, List.getElem?_cons_zero, List.getElem?_cons_succ]; go_simp; try with_reducible rfl
          try simp only [Act.put, List.setIfInBounds_toArray, List.set_cons_zero, List.set_cons_succ]
          refine wpAnyH_done (by kernel_rfl) ?_ _
          have hb3 := below2 hb2 hHeld hb2.size
          have HN3 := Lib.hid (HN2.out.below hHeld)
          go_wp2_with fail
          go_ret2
          exact ⟨⟨_, L, _, by rw [HL.out]; rfl, HS.out, HN3.out⟩, hb3⟩
    · have hn := noF_of_getT ha hg he
      have HS := Lib.hid (HU.out.scans hn)
      have t1 : (er != 0) = true := by simpa using he
      clear hn he hg
      go_wp2_with (go_at_call 22; refine (C1.out _).mono ?_; rintro e w1 ⟨rfl, hb1⟩; have hb2 := below2 hb hb1 hbs; have HN2 := Lib.hid (HN.out.below hb1); dsimp only)
      go_quiet (fail)
      go_wp2_with fail
      go_ret2
      exact ⟨⟨_, L, _, by rw [HL.out]; rfl, HS.out, HN2.out.drewN _⟩, below_drewN hb2 _⟩
end Go.Proofs.YtfhcjlmolneooaaDoor
