/-
  Layer 1 (zig): what each call of the document's own answer returns; all that was in memory stays.
-/
import Derived.Test.YtfhcjlmolneooaaDoorZig
import Derived.Outline
import Derived.Deep.OwnRows
import Derived.BigQuiet
import Derived.Deep.QuietTactic
import Derived.Deep.RegionWith
namespace Go.Proofs.YtfhcjlmolneooaaDoor
open Go.RowKit Go.Deep
attribute [local go_sem] str_size str_append str_toList str_get str_extract

theorem refUint_c (n : Nat) (w : World) (h2 : n < 18446744073709551616) : Calls Tryd.prog 24 #[.int .u64 n] w fun e w' => e = .returned (.string (str (uv n))) ∧ Below w.heap.size w w' := by
  have hcv := conv_one (P := Tryd.prog) 32 9 5 Tryd.underlying32 Tryd.underlying5 Tryd.underlying9
  go_enter Tryd.func24, Tryd.ntmps24
  go_wp2_with fail
  go_loopw [0, 3] (fun a s wr => ∃ (m : Nat) (p : List UInt8), m < 18446744073709551616 ∧ a = .int .u64 m ∧ s = .string (str p) ∧ p ++ uv m = uv n ∧ Below w.heap.size w wr) (fun a _ _ => (intOf a).toNat)
  case atStart => exact ⟨n, [], h2, rfl, rfl, rfl, Below.refl _ _⟩
  case round =>
    obtain ⟨m, p, hm, rfl, rfl, hp, hb⟩ := hrel
    have hpl : p.length ≤ 10 := by
      have := uv_len10 h2
      have h := congrArg List.length hp
      rw [List.length_append] at h
      omega
    have HP := Lib.hid hp
    clear hp
    by_cases hlt : m < 128
    · go_wp2
      go_ret
      refine ⟨ret_str ?_, hb.alloc hb.size _⟩
      rw [← HP.out, uv_lt hlt]
    · go_wp2
      go_roundw
      case rel =>
        refine ⟨m / 128, _, by omega, rfl, rfl, ?_, hb.alloc hb.size _⟩
        rw [← HP.out, uv_ge hlt, List.append_assoc, UInt8.ofNat_add]
        rfl
      case measure => simp [intOf]; omega
theorem refText_c (l : List UInt8) (w : World) (h : l.length ≤ 4611686018427387904) : Calls Tryd.prog 20 #[.string (str l)] w fun e w' => e = .returned (.string (str (tx l))) ∧ Below w.heap.size w w' := by
  have h10 := uv_len10 (n := l.length) (by omega)
  go_enter Tryd.func20, Tryd.ntmps20
  go_wp2_with fail
  refine (refUint_c l.length _ (by omega)).mono ?_
  rintro e w' ⟨rfl, hb⟩
  go_wp2_with fail
  go_ret
  exact ⟨rfl, hb⟩
set_option maxHeartbeats 2000000 in
theorem refGetUint_c (l : List UInt8) (a : Int) (v nx er : Int) (w : World) (hl : l.length ≤ 4611686018427387904) (ha1 : -9223372036854775808 ≤ a) (ha2 : a ≤ 9223372036854775807) (hg : getU l a = (v, nx, er)) :
    Calls Tryd.prog 27 #[.string (str l), .int .i64 a] w fun e w' => e = .returned (.tuple #[.int .u64 v, .int .i64 nx, .int .i64 er]) ∧ Below w.heap.size w w' := by
  have HG := Lib.hid hg
  clear hg
  by_cases h0 : a < 0
  · go_enter Tryd.func27, Tryd.ntmps27
    go_wp2
    go_ret3
    exact ⟨ret_uie ((getU_out (.inl h0)).symm.trans HG.out), Below.refl _ _⟩
  by_cases h1 : (l.length : Int) < a
  · go_enter Tryd.func27, Tryd.ntmps27
    go_wp2
    go_ret3
    exact ⟨ret_uie ((getU_out (.inr h1)).symm.trans HG.out), Below.refl _ _⟩
  obtain ⟨a, rfl⟩ : ∃ k : Nat, a = k := ⟨a.toNat, by omega⟩
  go_enter Tryd.func27, Tryd.ntmps27
  go_wp2_with fail
  go_loop [7] (fun c => ∃ i : Nat, i ≤ 10 ∧ c = .int .i64 i ∧ Hid (i ≤ lead (l.drop a))) (fun c => 10 - (intOf c).toNat)
  case atStart => exact ⟨0, by omega, rfl, Nat.zero_le _⟩
  case round =>
    obtain ⟨i, hi, rfl, hle⟩ := hrel
    by_cases hlt : i < 10
    · have hnt : ((i : Int) == 10) = false := by simp; omega
      by_cases hend : a + i = l.length
      · have he : ((a : Int) + i == l.length) = true := by simp; omega
        have HR := Lib.hid (getU_short hend hlt hle.out)
        have hnl : ¬ ((a : Int) + i < l.length) := by omega
        clear hend
        go_wp2
        go_ret3
        exact ⟨ret_uie (HR.out.symm.trans HG.out), Below.refl _ _⟩
      · have he : ((a : Int) + i == l.length) = false := by simp; omega
        have hb : a + i < l.length := by
          have h1 := hle.out
          have h2 := lead_le (l.drop a)
          have h3 := List.length_drop (i := a) (l := l)
          omega
        obtain ⟨q, hq⟩ : ∃ q, q = (l[a + i]).toNat := ⟨_, rfl⟩
        have hql : q < 256 := by rw [hq]; exact (l[a + i]).toNat_lt
        by_cases hq7 : q < 128
        · have hlead := lead_here hb hle.out (by rw [← hq]; exact hq7)
          have HL := Lib.hid hlead
          have hq' := hq.symm
          clear hlead hq
          go_wp2_with fail
          go_loop [8, 9] (fun x c => ∃ (k : Int) (x' : Nat), -1 ≤ k ∧ k ≤ i ∧ c = .int .i64 k ∧ x = .int .u64 x' ∧ x' < 18446744073709551616 ∧ Hid (x' = val (((l.drop a).take (i + 1)).drop (k + 1).toNat))) (fun _ c => (intOf c + 1).toNat)
          case atStart => exact ⟨i, 0, by omega, by omega, rfl, rfl, by omega, by show _ = _; rw [List.drop_of_length_le (by rw [List.length_take]; omega)]; rfl⟩
          case round =>
            obtain ⟨k, x, hk1, hk2, rfl, rfl, hx, hv⟩ := hrel
            by_cases hk : k < 0
            · obtain rfl : k = -1 := by omega
              have hxe := hv.out
              rw [show ((-1 : Int) + 1).toNat = 0 from rfl, List.drop_zero] at hxe
              by_cases hc : uv x = (l.drop a).take (i + 1)
              · have hc' : (uv x == (l.drop a).take (i + 1)) = true := by simpa using hc
                have HR := Lib.hid (getU_good hb hlt HL.out ⟨by omega, by rw [← hxe]; exact hc⟩)
                have HX := Lib.hid hxe
                clear hc hxe
                have s1 : IntKind.i64.wrap ((a : Int) + i) = (a : Int) + i := IntWalk.i64_in _ (by omega)
                have s2 : IntKind.i64.wrap ((a : Int) + i + 1) = (a : Int) + i + 1 := IntWalk.i64_in _ (by omega)
                have hsl := fun (W : World) => run_slice_string (P := Tryd.prog) W 9 (str l) .i64 .i64 (a : Int) ((a : Int) + i + 1) Tryd.underlying9 (by omega) (by omega) (by rw [str_size]; omega)
                simp only [str_extract, Int.toNat_natCast, show ((a : Int) + i + 1).toNat - a = i + 1 by omega] at hsl
                go_wp2_with fail
                go_region_with (go_at_call 24; refine (refUint_c x _ (by omega)).mono ?_; rintro e w' ⟨rfl, hb'⟩)
                go_wp2_with fail
                go_ret3
                have h3 := HR.out
                rw [← HX.out] at h3
                exact ⟨ret_uie (h3.symm.trans HG.out), below_of_drew hb'⟩
              · have hc' : (uv x == (l.drop a).take (i + 1)) = false := by simpa using hc
                have HR := Lib.hid (getU_big hb hlt HL.out (fun e => hc (by rw [hxe]; exact e.2)))
                clear hc hxe
                have s1 : IntKind.i64.wrap ((a : Int) + i) = (a : Int) + i := IntWalk.i64_in _ (by omega)
                have s2 : IntKind.i64.wrap ((a : Int) + i + 1) = (a : Int) + i + 1 := IntWalk.i64_in _ (by omega)
                have hsl := fun (W : World) => run_slice_string (P := Tryd.prog) W 9 (str l) .i64 .i64 (a : Int) ((a : Int) + i + 1) Tryd.underlying9 (by omega) (by omega) (by rw [str_size]; omega)
                simp only [str_extract, Int.toNat_natCast, show ((a : Int) + i + 1).toNat - a = i + 1 by omega] at hsl
                go_wp2_with fail
                go_region_with (go_at_call 24; refine (refUint_c x _ (by omega)).mono ?_; rintro e w' ⟨rfl, hb'⟩)
                go_wp2_with fail
                go_ret3
                exact ⟨ret_uie (HR.out.symm.trans HG.out), below_of_drew hb'⟩
            · obtain ⟨k, rfl⟩ : ∃ m : Nat, k = m := ⟨k.toNat, by omega⟩
              by_cases hbig : x < 144115188075855872
              · have hkl : k < ((l.drop a).take (i + 1)).length := by rw [List.length_take, List.length_drop]; omega
                have hvd := val_drop _ _ hkl
                have hel : ((l.drop a).take (i + 1))[k] = l[a + k] := by rw [List.getElem_take, List.getElem_drop]
                rw [hel] at hvd
                have hve := hv.out
                rw [show ((k : Int) + 1).toNat = k + 1 by omega] at hve
                rw [← hve] at hvd
                obtain ⟨r, hr⟩ : ∃ r, r = (l[a + k]).toNat := ⟨_, rfl⟩
                rw [← hr] at hvd
                have hr' := hr.symm
                have HV := Lib.hid hvd
                clear hvd hel hr hve
                go_wp2_with fail
                go_round
                case rel =>
                  refine ⟨(k : Int) - 1, x * 128 + r % 128, by omega, by omega, rfl, by go_num, by omega, ?_⟩
                  show _ = _
                  rw [show ((k : Int) - 1 + 1).toNat = k by omega, HV.out, Nat.mul_comm, Nat.add_comm]
                case measure => simp [intOf] <;> omega
              · have hkl : k < ((l.drop a).take (i + 1)).length := by rw [List.length_take, List.length_drop]; omega
                have hvd := val_drop_le ((l.drop a).take (i + 1)) k
                rw [val_drop _ _ hkl] at hvd
                have hve := hv.out
                rw [show ((k : Int) + 1).toNat = k + 1 by omega] at hve
                rw [← hve] at hvd
                have HR := Lib.hid (getU_big hb hlt HL.out (by omega))
                clear hvd hve
                go_wp2_with fail
                go_ret3
                exact ⟨ret_uie (HR.out.symm.trans HG.out), Below.refl _ _⟩
        · have hmore := lead_more hb hle.out (by rw [← hq]; exact hq7)
          have HM := Lib.hid hmore
          have hq' := hq.symm
          clear hmore hq
          go_wp2_with fail
          go_round
          case rel => exact ⟨i + 1, by omega, by go_num, HM⟩
          case measure => simp [intOf] <;> omega
    · obtain rfl : i = 10 := by omega
      have HR := Lib.hid (getU_ten (by omega) hle.out)
      go_wp2
      go_ret3
      exact ⟨ret_uie (HR.out.symm.trans HG.out), Below.refl _ _⟩
theorem refGetText_c (l : List UInt8) (a : Int) (v : List UInt8) (nx er : Int) (w : World) (hl : l.length ≤ 281474976710656) (ha1 : -9223372036854775808 ≤ a) (ha2 : a ≤ 9223372036854775807) (hg : getT l a = (v, nx, er)) :
    Calls Tryd.prog 22 #[.string (str l), .int .i64 a] w fun e w' => e = .returned (.tuple #[.string (str v), .int .i64 nx, .int .i64 er]) ∧ Below w.heap.size w w' := by
  obtain ⟨u, n', e', hu⟩ : ∃ u n' e', getU l a = (u, n', e') := ⟨_, _, _, rfl⟩
  have hr := getU_range hu
  unfold getT at hg
  rw [hu] at hg
  obtain ⟨u, rfl⟩ : ∃ m : Nat, u = m := ⟨u.toNat, by omega⟩
  obtain ⟨n', rfl⟩ : ∃ m : Nat, n' = m := ⟨n'.toNat, by omega⟩
  have HU := Lib.hid hu
  clear hu
  by_cases he : e' = 0
  · subst he
    rw [if_pos rfl] at hg
    obtain ⟨k1, k2, k3, k4, -⟩ := hr
    by_cases hs : (l.length : Int) - n' < u
    · rw [if_pos hs] at hg
      have HG := Lib.hid hg
      clear hg
      go_enter Tryd.func22, Tryd.ntmps22
      go_wp2_with fail
      refine (refGetUint_c l a _ _ _ _ (by omega) ha1 ha2 HU.out).mono ?_
      rintro e w' ⟨rfl, hb⟩
      go_wp2_with fail
      go_ret3
      exact ⟨ret_sie HG.out, hb⟩
    · rw [if_neg hs] at hg
      simp only [Int.toNat_natCast] at hg
      have HG := Lib.hid hg
      have hlen : ((l.drop n').take u).length ≤ 281474976710656 := by rw [List.length_take, List.length_drop]; omega
      clear hg
      go_enter Tryd.func22, Tryd.ntmps22
      go_wp2_with fail
      refine (refGetUint_c l a _ _ _ _ (by omega) ha1 ha2 HU.out).mono ?_
      rintro e w' ⟨rfl, hb⟩
      go_wp2_with fail
      go_ret3
      exact ⟨(ret_sie (by rw [show n' + u - n' = u by omega])).trans (ret_sie HG.out), hb⟩
  · rw [if_neg he] at hg
    have HG := Lib.hid hg
    have he' : (e' != 0) = true := by simpa using he
    clear hg he
    obtain ⟨k1, k2, k3, k4, k5, k6, -⟩ := hr
    go_enter Tryd.func22, Tryd.ntmps22
    go_wp2_with fail
    refine (refGetUint_c l a _ _ _ _ (by omega) ha1 ha2 HU.out).mono ?_
    rintro e w' ⟨rfl, hb⟩
    go_wp2_with fail
    go_ret3
    exact ⟨ret_sie HG.out, hb⟩
end Go.Proofs.YtfhcjlmolneooaaDoor
