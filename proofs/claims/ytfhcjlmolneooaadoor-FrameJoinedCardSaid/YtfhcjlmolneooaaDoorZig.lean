/-
  Layer 1 (zig): what each call of the program, and of the document's own answer, returns; all that was in memory stays.
-/
import Derived.Test.YtfhcjlmolneooaaDoorRows
import Derived.Test.YtfhcjlmolneooaaDoorZigPure
import Derived.Test.YtfhcjlmolneooaaDoorShelf
import Derived.Outline
import Derived.Deep.OwnRows
import Derived.BigQuiet
import Derived.Deep.QuietTactic
import Derived.Deep.RegionWith
namespace Go.Proofs.YtfhcjlmolneooaaDoor
open Go.RowKit Go.Deep
attribute [local go_sem] str_size str_append str_toList str_get str_extract

theorem groups_c (n : Nat) (w : World) (h : n < 18446744073709551616) : Calls Tryd.prog 28 #[.int .u64 n] w fun e w' => e = .returned (.int .i64 (uv n).length) ∧ w = w' := by
  have hb : bits .or .u64 (n : Int) 1 = ((n ||| 1 : Nat) : Int) := u64_or_nat n 1 h (by omega)
  have e := or_one n
  have hg := groups_eq n h
  have hle := Lib.bitLen_le (n ||| 1) 64 (by omega) (by omega)
  obtain ⟨m, hm⟩ : ∃ m, m = (n ||| 1) := ⟨_, rfl⟩
  rw [← hm] at hb hg hle e
  have hm1 : m < 18446744073709551616 := by omega
  obtain ⟨k, hk⟩ : ∃ k, k = Lib.bitLen m := ⟨_, rfl⟩
  rw [← hk] at hg hle
  have HK := Lib.hid hk
  have HG := Lib.hid hg
  clear hm e hk hg
  go_enter Tryd.func28, Tryd.ntmps28
  go_wp2_with fail
  refine (Tryd.bits_Len64 m _ (by omega) (by omega)).mono ?_
  rintro e w' ⟨rfl, rfl⟩
  rw [Int.toNat_natCast, ← HK.out]
  go_wp2_with fail
  go_ret
  exact ⟨ret_int (by rw [← HG.out]; omega), rfl⟩
theorem uint_info : (Tryd.prog.info? 5).map (fun i => (i.zero, i.size, i.bytes)) = some (some (.int .u8 0), 1, 1) := by kernel_rfl
/-- The row of bytes that Uint fills, i of them done. -/
def urow (n i : Nat) (j : Nat) : Value := if j < i then .int .u8 ((n / 128 ^ j % 128 + 128 : Nat) : Int) else .int .u8 0
theorem uint_c (n : Nat) (w : World) (h2 : n < 18446744073709551616) : Calls Tryd.prog 23 #[.int .u64 n] w fun e w' => e = .returned (.string (str (uv n))) ∧ Below w.heap.size w w' := by
  have hlen := uv_len10 h2
  have hpos := uv_pos n
  obtain ⟨k, hk⟩ : ∃ k, k = (uv n).length := ⟨_, rfl⟩
  rw [← hk] at hlen hpos
  have hmk := fun W => run_make_row' (P := Tryd.prog) 32 5 (.int .u8 0) 1 Tryd.underlying32 uint_info rfl .i64 .i64 k (by omega) (by omega) W
  have HK := Lib.hid hk
  clear hk
  go_enter Tryd.func23, Tryd.ntmps23
  go_wp2_with fail
  refine (groups_c n _ h2).mono ?_
  rintro e w' ⟨rfl, rfl⟩
  rw [← HK.out]
  go_wp2_with fail
  go_loopw [11] (fun c wr => ∃ i : Nat, i ≤ k ∧ c = .int .i64 i ∧ wr.rowIs w.heap.size 5 k (urow n i) ∧ Below w.heap.size w wr) (fun c _ => k - (intOf c).toNat)
  case atStart =>
    exact ⟨0, by omega, rfl, (World.rowIs_made w (.int .u8 0) k 5).congr (fun j _ => by simp [urow]), (Below.refl _ _).alloc (Nat.le_refl _) _⟩
  case round =>
    obtain ⟨i, hi, rfl, hrow, hb⟩ := hrel
    by_cases hlt : i < k
    · have hc := hrow.cell hlt
      have hf := hrow.frozen i
      go_wp2
      go_roundw
      case rel =>
        refine ⟨i + 1, by omega, by go_num, ?_, hb.setCell (Nat.le_refl _) _⟩
        rw [group_more]
        refine (hrow.set i _).congr (fun j _ => ?_)
        unfold urow
        by_cases h : j = i
        · subst h; rw [if_pos rfl, if_pos (by omega)]
        · rw [if_neg h]; by_cases h' : j < i
          · rw [if_pos h', if_pos (by omega)]
          · rw [if_neg h', if_neg (by omega)]
      case measure => simp [intOf]; omega
    · obtain rfl : i = k := by omega
      have hc := hrow.cell (i := i - 1) (by omega)
      have hf := hrow.frozen (i - 1)
      have ht := uv_top n (i - 1) (by rw [← HK.out]; omega)
      obtain ⟨g, hg⟩ : ∃ g, g = n / 128 ^ (i - 1) := ⟨_, rfl⟩
      have hc' : wr.cell? ⟨w.heap.size, i - 1, none⟩ = some (.int .u8 ((g : Int) + 128)) := by
        rw [hc]; unfold urow; rw [if_pos (by omega), ← hg, Nat.mod_eq_of_lt (by rw [hg]; exact ht.2)]; rfl
      have hg' : g < 128 := by rw [hg]; exact ht.2
      have hgl := group_last g hg'
      have hrow' := hrow.set (i - 1) (.int .u8 (g : Int))
      have hcv := conv_row (P := Tryd.prog) _ 32 9 5 Tryd.underlying32 Tryd.underlying5 Tryd.underlying9 w.heap.size (uv n) i i _ hrow' (by rw [← HK.out]; omega) (fun j hj => by
        rw [← HK.out] at hj
        by_cases h : j = i - 1
        · subst h
          rw [if_pos rfl]
          have h1 := ht.1
          rw [List.getElem?_eq_getElem (by rw [← HK.out]; exact hj)] at h1
          injection h1 with h1
          rw [h1, ← hg, toNat_ofNat_lt (by omega), Nat.mod_eq_of_lt hg']
        · rw [if_neg h]
          have h1 := uv_get n j (by rw [← HK.out]; omega)
          rw [List.getElem?_eq_getElem (by rw [← HK.out]; exact hj)] at h1
          injection h1 with h1
          unfold urow
          rw [if_pos hj, h1, toNat_ofNat_lt (by omega)])
      rw [← HK.out] at hcv
      clear hc ht hg hrow'
      go_wp2
      go_ret
      exact ⟨rfl, hb.setCell (Nat.le_refl _) _⟩
theorem text_c (l : List UInt8) (w : World) (h : l.length ≤ 4611686018427387904) : Calls Tryd.prog 18 #[.string (str l)] w fun e w' => e = .returned (.string (str (tx l))) ∧ Below w.heap.size w w' := by
  have h10 := uv_len10 (n := l.length) (by omega)
  go_enter Tryd.func18, Tryd.ntmps18
  go_wp2_with fail
  refine (uint_c l.length _ (by omega)).mono ?_
  rintro e w' ⟨rfl, hb⟩
  go_wp2_with fail
  go_ret
  exact ⟨rfl, hb⟩
theorem mayEnd_c (i g : Nat) (w : World) (hi : i < 10) (hg : g < 128) : Calls Tryd.prog 33 #[.int .i64 i, .int .u8 g] w fun e w' => e = .returned (.bool (mayEndB i g)) ∧ w = w' := by
  by_cases h9 : i = 9
  · subst h9
    by_cases h2 : g < 2
    · by_cases h0 : g = 0
      · subst h0
        go_enter Tryd.func33, Tryd.ntmps33
        go_wp2
        go_ret
        exact ⟨ret_bool rfl, rfl⟩
      · obtain rfl : g = 1 := by omega
        go_enter Tryd.func33, Tryd.ntmps33
        go_wp2
        go_ret
        exact ⟨ret_bool rfl, rfl⟩
    · have hm : mayEndB 9 g = false := by unfold mayEndB; simp; omega
      have HM := Lib.hid hm
      clear hm
      go_enter Tryd.func33, Tryd.ntmps33
      go_wp2
      go_ret
      exact ⟨ret_bool HM.out.symm, rfl⟩
  · by_cases h0 : i = 0
    · subst h0
      have hm : mayEndB 0 g = true := by unfold mayEndB; simp
      have HM := Lib.hid hm
      clear hm
      go_enter Tryd.func33, Tryd.ntmps33
      go_wp2
      go_ret
      exact ⟨ret_bool HM.out.symm, rfl⟩
    · have h9' : ((i : Int) == 9) = false := by simp; omega
      have h0' : ((i : Int) == 0) = false := by simp; omega
      by_cases hz : g = 0
      · subst hz
        have hm : mayEndB i 0 = false := by unfold mayEndB; simp; omega
        have HM := Lib.hid hm
        clear hm
        go_enter Tryd.func33, Tryd.ntmps33
        go_wp2
        go_ret
        exact ⟨ret_bool HM.out.symm, rfl⟩
      · have hm : mayEndB i g = true := by unfold mayEndB; simp; omega
        have HM := Lib.hid hm
        have hz' : ((g : Int) != 0) = true := by simp; omega
        clear hm
        go_enter Tryd.func33, Tryd.ntmps33
        go_wp2
        go_ret
        exact ⟨ret_bool HM.out.symm, rfl⟩
/-- Three results, by their equations. -/
theorem ret_uie {v nx er v' nx' er' : Int} (h : (v, nx, er) = (v', nx', er')) : Ending.returned (.tuple #[.int .u64 v, .int .i64 nx, .int .i64 er]) = .returned (.tuple #[.int .u64 v', .int .i64 nx', .int .i64 er']) := by
  simp only [Prod.mk.injEq] at h; rw [h.1, h.2.1, h.2.2]
theorem getUint_c (l : List UInt8) (a : Int) (v nx er : Int) (w : World) (hl : l.length ≤ 4611686018427387904) (ha1 : -9223372036854775808 ≤ a) (ha2 : a ≤ 9223372036854775807) (hg : getU l a = (v, nx, er)) :
    Calls Tryd.prog 29 #[.string (str l), .int .i64 a] w fun e w' => e = .returned (.tuple #[.int .u64 v, .int .i64 nx, .int .i64 er]) ∧ w = w' := by
  have HG := Lib.hid hg
  clear hg
  by_cases h0 : a < 0
  · go_enter Tryd.func29, Tryd.ntmps29
    go_wp2
    go_ret3
    exact ⟨ret_uie ((getU_out (.inl h0)).symm.trans HG.out), rfl⟩
  by_cases h1 : (l.length : Int) < a
  · go_enter Tryd.func29, Tryd.ntmps29
    go_wp2
    go_ret3
    exact ⟨ret_uie ((getU_out (.inr h1)).symm.trans HG.out), rfl⟩
  obtain ⟨a, rfl⟩ : ∃ k : Nat, a = k := ⟨a.toNat, by omega⟩
  go_enter Tryd.func29, Tryd.ntmps29
  go_wp2_with fail
  go_loop [7, 18] (fun n c => ∃ i x : Nat, i ≤ 10 ∧ n = .int .u64 x ∧ x < 18446744073709551616 ∧ c = .int .i64 i ∧ Hid (i ≤ 9 → x = val ((l.drop a).take i)) ∧ Hid (i ≤ lead (l.drop a))) (fun _ c => 10 - (intOf c).toNat)
  case atStart => exact ⟨0, 0, by omega, rfl, by omega, rfl, fun _ => rfl, Nat.zero_le _⟩
  case round =>
    obtain ⟨i, x, hi, rfl, hx, rfl, hv, hle⟩ := hrel
    by_cases hlt : i < 10
    · by_cases hend : a + i = l.length
      · have he : ((a : Int) + i == l.length) = true := by simp; omega
        have HR := Lib.hid (getU_short hend hlt hle.out)
        clear hend
        go_wp2
        go_ret3
        exact ⟨ret_uie (HR.out.symm.trans HG.out), rfl⟩
      · have he : ((a : Int) + i == l.length) = false := by simp; omega
        have hb : a + i < l.length := by
          have h1 := hle.out
          have h2 := lead_le (l.drop a)
          have h3 := List.length_drop (i := a) (l := l)
          omega
        obtain ⟨q, hq⟩ : ∃ q, q = (l[a + i]).toNat := ⟨_, rfl⟩
        have hql : q < 256 := by rw [hq]; exact (l[a + i]).toNat_lt
        have hxv := hv.out (by omega)
        have hxl : x < 128 ^ i := by rw [hxv]; exact val_take_lt _ _ (by rw [List.length_drop]; omega)
        obtain ⟨z, hz, hzl, hzs⟩ := step_or i x (q % 128) (by omega) hxl (Nat.mod_lt _ (by omega))
        have hr : bits .andNot .u8 (q : Int) 128 = ((q % 128 : Nat) : Int) := by
          refine (u8_andNot_nat q 128 hql (by omega)).trans ?_
          rw [show 255 - 128 = 127 from rfl, u8_and127]
        have hr' : bits .and .u8 (q : Int) 128 = if q < 128 then 0 else 128 := by
          refine (u8_and_nat q 128 hql (by omega)).trans ?_
          rw [u8_and128 _ hql]; split <;> rfl
        by_cases hq7 : q < 128
        · rw [if_pos hq7] at hr'
          have hlead := lead_here hb hle.out (by rw [← hq]; exact hq7)
          have hend' := getU_end hb hlt hlead hxv
          rw [← hq] at hend'
          have hrq : q % 128 = q := Nat.mod_eq_of_lt hq7
          rw [hrq] at hr hz hzs
          have HQ := Lib.hid hq
          have HE := Lib.hid hend'
          have HZ := Lib.hid hzs
          have hq' := hq.symm
          clear hq hxv hlead hend' hrq hzs hend
          by_cases hm : mayEndB i q = true
          · have HM := Lib.hid hm
            go_wp2_with fail
            refine (mayEnd_c i q _ hlt hq7).mono ?_
            rintro e w' ⟨rfl, rfl⟩
            rw [hm]
            clear hm
            go_wp2_with fail
            go_ret3
            have hm := HM.out
            have h3 := HE.out
            rw [if_pos hm] at h3
            have h8 : i ≤ 8 ∨ q < 2 := by
              unfold mayEndB at hm
              rw [decide_eq_true_iff] at hm
              by_cases h9 : i = 9
              · exact .inr (hm.1 h9)
              · exact .inl (by omega)
            rw [← HZ.out h8] at h3
            exact ⟨ret_uie (h3.symm.trans HG.out), rfl⟩
          · have hm : mayEndB i q = false := by simpa using hm
            have HM := Lib.hid hm
            go_wp2_with fail
            refine (mayEnd_c i q _ hlt hq7).mono ?_
            rintro e w' ⟨rfl, rfl⟩
            rw [hm]
            clear hm
            go_wp2_with fail
            go_ret3
            have h3 := HE.out
            rw [HM.out, if_neg (by simp)] at h3
            exact ⟨ret_uie (h3.symm.trans HG.out), rfl⟩
        · rw [if_neg hq7] at hr'
          have hmore := lead_more hb hle.out (by rw [← hq]; exact hq7)
          have hget : (l.drop a)[i]? = some (l[a + i]) := by rw [List.getElem?_drop, List.getElem?_eq_getElem hb]
          have hvs := val_take_succ hget
          rw [← hq, ← hxv] at hvs
          have HV : Hid (i + 1 ≤ 9 → z = val ((l.drop a).take (i + 1))) := fun h => by rw [hvs, hzs (.inl (by omega))]
          have HM := Lib.hid hmore
          have hq' := hq.symm
          obtain ⟨r, hr2⟩ : ∃ r, r = q % 128 := ⟨_, rfl⟩
          have hrl : r < 128 := by omega
          rw [← hr2] at hr hz
          clear hq hxv hzs hmore hget hvs hend hr2
          go_wp2_with fail
          go_round
          case rel => exact ⟨i + 1, z, by omega, rfl, hzl, by go_num, HV, HM⟩
          case measure => simp [intOf]; omega
    · obtain rfl : i = 10 := by omega
      go_wp2
      go_ret3
      exact ⟨ret_uie ((getU_ten (by omega) hle.out).symm.trans HG.out), rfl⟩
theorem ret_iie {v nx er v' nx' er' : Int} (h : (v, nx, er) = (v', nx', er')) : Ending.returned (.tuple #[.int .i64 v, .int .i64 nx, .int .i64 er]) = .returned (.tuple #[.int .i64 v', .int .i64 nx', .int .i64 er']) := by
  simp only [Prod.mk.injEq] at h; rw [h.1, h.2.1, h.2.2]
theorem ret_sie {v v' : List UInt8} {nx er nx' er' : Int} (h : (v, nx, er) = (v', nx', er')) : Ending.returned (.tuple #[.string (str v), .int .i64 nx, .int .i64 er]) = .returned (.tuple #[.string (str v'), .int .i64 nx', .int .i64 er']) := by
  simp only [Prod.mk.injEq] at h; rw [h.1, h.2.1, h.2.2]
theorem clone_c (l : List UInt8) (w : World) (h : l.length ≤ 281474976710656) : Calls Tryd.prog 30 #[.string (str l)] w fun e w' => e = .returned (.string (str l)) ∧ Below w.heap.size w w' := by
  go_enter Tryd.func30, Tryd.ntmps30
  go_wp2_with fail
  refine (Tryd.stringslite_Clone (str l) _ (by rw [str_size]; exact h)).mono ?_
  rintro e w' ⟨rfl, hb⟩
  go_wp2_with fail
  go_ret
  exact ⟨rfl, hb⟩
theorem getText_c (l : List UInt8) (a : Int) (v : List UInt8) (nx er : Int) (w : World) (hl : l.length ≤ 281474976710656) (ha1 : -9223372036854775808 ≤ a) (ha2 : a ≤ 9223372036854775807) (hg : getT l a = (v, nx, er)) :
    Calls Tryd.prog 25 #[.string (str l), .int .i64 a] w fun e w' => e = .returned (.tuple #[.string (str v), .int .i64 nx, .int .i64 er]) ∧ Below w.heap.size w w' := by
  obtain ⟨u, n', e', hu⟩ : ∃ u n' e', getU l a = (u, n', e') := ⟨_, _, _, rfl⟩
  have hr := getU_range hu
  unfold getT at hg
  rw [hu] at hg
  obtain ⟨u, rfl⟩ : ∃ m : Nat, u = m := ⟨u.toNat, by omega⟩
  obtain ⟨n', rfl⟩ : ∃ m : Nat, n' = m := ⟨n'.toNat, by omega⟩
  have HU := Lib.hid hu
  clear hu
  by_cases he : e' = 0
  · subst he
    rw [if_pos rfl] at hg
    obtain ⟨k1, k2, k3, k4, -⟩ := hr
    by_cases hs : (l.length : Int) - n' < u
    · rw [if_pos hs] at hg
      have HG := Lib.hid hg
      clear hg
      go_enter Tryd.func25, Tryd.ntmps25
      go_wp2_with fail
      refine (getUint_c l a _ _ _ _ (by omega) ha1 ha2 HU.out).mono ?_
      rintro e w' ⟨rfl, rfl⟩
      go_wp2_with fail
      go_ret3
      exact ⟨ret_sie HG.out, Below.refl _ _⟩
    · rw [if_neg hs] at hg
      simp only [Int.toNat_natCast] at hg
      have HG := Lib.hid hg
      have hlen : ((l.drop n').take u).length ≤ 281474976710656 := by rw [List.length_take, List.length_drop]; omega
      clear hg
      go_enter Tryd.func25, Tryd.ntmps25
      go_wp2_with fail
      refine (getUint_c l a _ _ _ _ (by omega) ha1 ha2 HU.out).mono ?_
      rintro e w' ⟨rfl, rfl⟩
      go_wp2_with fail
      rw [show n' + u - n' = u by omega]
      refine (clone_c _ _ hlen).mono ?_
      rintro e w' ⟨rfl, hb⟩
      go_wp2_with fail
      go_ret3
      exact ⟨ret_sie HG.out, hb⟩
  · rw [if_neg he] at hg
    have HG := Lib.hid hg
    have he' : (e' != 0) = true := by simpa using he
    clear hg he
    obtain ⟨k1, k2, k3, k4, k5, k6, -⟩ := hr
    go_enter Tryd.func25, Tryd.ntmps25
    go_wp2_with fail
    refine (getUint_c l a _ _ _ _ (by omega) ha1 ha2 HU.out).mono ?_
    rintro e w' ⟨rfl, rfl⟩
    go_wp2_with fail
    go_ret3
    exact ⟨ret_sie HG.out, Below.refl _ _⟩
end Go.Proofs.YtfhcjlmolneooaaDoor
