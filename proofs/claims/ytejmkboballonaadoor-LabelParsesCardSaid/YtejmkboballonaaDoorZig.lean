/-
  Layer 1 (zig): what each call of the program, and of the document's own answer, returns; all that was in memory stays.
-/
import Derived.Test.YtejmkboballonaaDoorRows
import Derived.Test.YtejmkboballonaaDoorZigPure
import Derived.Test.YtejmkboballonaaDoorShelf
import Derived.Outline
import Derived.Deep.OwnRows
import Derived.BigQuiet
import Derived.Deep.QuietTactic
import Derived.Deep.RegionWith
namespace Go.Proofs.YtejmkboballonaaDoor
open Go.RowKit Go.Deep
attribute [local go_sem] str_size str_append str_toList str_get str_extract

theorem groups_c (n : Nat) (w : World) (h : n < 18446744073709551616) : Calls Tryd.prog 51 #[.int .u64 n] w fun e w' => e = .returned (.int .i64 (uv n).length) ∧ w = w' := by
  have hb : bits .or .u64 (n : Int) 1 = ((n ||| 1 : Nat) : Int) := u64_or_nat n 1 h (by omega)
  have e := or_one n
  have hg := groups_eq n h
  have hle := Lib.bitLen_le (n ||| 1) 64 (by omega) (by omega)
  obtain ⟨m, hm⟩ : ∃ m, m = (n ||| 1) := ⟨_, rfl⟩
  rw [← hm] at hb hg hle e
  have hm1 : m < 18446744073709551616 := by omega
  obtain ⟨k, hk⟩ : ∃ k, k = Lib.bitLen m := ⟨_, rfl⟩
  rw [← hk] at hg hle
  have HK := Lib.hid hk
  have HG := Lib.hid hg
  clear hm e hk hg
  go_enter Tryd.func51, Tryd.ntmps51
  go_wp2_with fail
  refine (Tryd.bits_Len64 m _ (by omega) (by omega)).mono ?_
  rintro e w' ⟨rfl, rfl⟩
  rw [Int.toNat_natCast, ← HK.out]
  go_wp2_with fail
  go_ret
  exact ⟨ret_int (by rw [← HG.out]; omega), rfl⟩
theorem uint_info : (Tryd.prog.info? 5).map (fun i => (i.zero, i.size, i.bytes)) = some (some (.int .u8 0), 1, 1) := by kernel_rfl
/-- The row of bytes that Uint fills, i of them done. -/
def urow (n i : Nat) (j : Nat) : Value := if j < i then .int .u8 ((n / 128 ^ j % 128 + 128 : Nat) : Int) else .int .u8 0
theorem uint_c (n : Nat) (w : World) (h2 : n < 18446744073709551616) : Calls Tryd.prog 41 #[.int .u64 n] w fun e w' => e = .returned (.string (str (uv n))) ∧ Below w.heap.size w w' := by
  have hlen := uv_len10 h2
  have hpos := uv_pos n
  obtain ⟨k, hk⟩ : ∃ k, k = (uv n).length := ⟨_, rfl⟩
  rw [← hk] at hlen hpos
  have hmk := fun W => run_make_row' (P := Tryd.prog) 39 5 (.int .u8 0) 1 Tryd.underlying39 uint_info rfl .i64 .i64 k (by omega) (by omega) W
  have HK := Lib.hid hk
  clear hk
  go_enter Tryd.func41, Tryd.ntmps41
  go_wp2_with fail
  refine (groups_c n _ h2).mono ?_
  rintro e w' ⟨rfl, rfl⟩
  rw [← HK.out]
  go_wp2_with fail
  go_loopw [11] (fun c wr => ∃ i : Nat, i ≤ k ∧ c = .int .i64 i ∧ wr.rowIs w.heap.size 5 k (urow n i) ∧ Below w.heap.size w wr) (fun c _ => k - (intOf c).toNat)
  case atStart =>
    exact ⟨0, by omega, rfl, (World.rowIs_made w (.int .u8 0) k 5).congr (fun j _ => by simp [urow]), (Below.refl _ _).alloc (Nat.le_refl _) _⟩
  case round =>
    obtain ⟨i, hi, rfl, hrow, hb⟩ := hrel
    by_cases hlt : i < k
    · have hc := hrow.cell hlt
      have hf := hrow.frozen i
      go_wp2
      go_roundw
      case rel =>
        refine ⟨i + 1, by omega, by go_num, ?_, hb.setCell (Nat.le_refl _) _⟩
        rw [group_more]
        refine (hrow.set i _).congr (fun j _ => ?_)
        unfold urow
        by_cases h : j = i
        · subst h; rw [if_pos rfl, if_pos (by omega)]
        · rw [if_neg h]; by_cases h' : j < i
          · rw [if_pos h', if_pos (by omega)]
          · rw [if_neg h', if_neg (by omega)]
      case measure => simp [intOf]; omega
    · obtain rfl : i = k := by omega
      have hc := hrow.cell (i := i - 1) (by omega)
      have hf := hrow.frozen (i - 1)
      have ht := uv_top n (i - 1) (by rw [← HK.out]; omega)
      obtain ⟨g, hg⟩ : ∃ g, g = n / 128 ^ (i - 1) := ⟨_, rfl⟩
      have hc' : wr.cell? ⟨w.heap.size, i - 1, none⟩ = some (.int .u8 ((g : Int) + 128)) := by
        rw [hc]; unfold urow; rw [if_pos (by omega), ← hg, Nat.mod_eq_of_lt (by rw [hg]; exact ht.2)]; rfl
      have hg' : g < 128 := by rw [hg]; exact ht.2
      have hgl := group_last g hg'
      have hrow' := hrow.set (i - 1) (.int .u8 (g : Int))
      have hcv := conv_row (P := Tryd.prog) _ 39 9 5 Tryd.underlying39 Tryd.underlying5 Tryd.underlying9 w.heap.size (uv n) i i _ hrow' (by rw [← HK.out]; omega) (fun j hj => by
        rw [← HK.out] at hj
        by_cases h : j = i - 1
        · subst h
          rw [if_pos rfl]
          have h1 := ht.1
          rw [List.getElem?_eq_getElem (by rw [← HK.out]; exact hj)] at h1
          injection h1 with h1
          rw [h1, ← hg, toNat_ofNat_lt (by omega), Nat.mod_eq_of_lt hg']
        · rw [if_neg h]
          have h1 := uv_get n j (by rw [← HK.out]; omega)
          rw [List.getElem?_eq_getElem (by rw [← HK.out]; exact hj)] at h1
          injection h1 with h1
          unfold urow
          rw [if_pos hj, h1, toNat_ofNat_lt (by omega)])
      rw [← HK.out] at hcv
      clear hc ht hg hrow'
      go_wp2
      go_ret
      exact ⟨rfl, hb.setCell (Nat.le_refl _) _⟩
theorem text_c (l : List UInt8) (w : World) (h : l.length ≤ 4611686018427387904) : Calls Tryd.prog 31 #[.string (str l)] w fun e w' => e = .returned (.string (str (tx l))) ∧ Below w.heap.size w w' := by
  have h10 := uv_len10 (n := l.length) (by omega)
  go_enter Tryd.func31, Tryd.ntmps31
  go_wp2_with fail
  refine (uint_c l.length _ (by omega)).mono ?_
  rintro e w' ⟨rfl, hb⟩
  go_wp2_with fail
  go_ret
  exact ⟨rfl, hb⟩
/-- Three results, by their equations. -/
theorem ret_uie {v nx er v' nx' er' : Int} (h : (v, nx, er) = (v', nx', er')) : Ending.returned (.tuple #[.int .u64 v, .int .i64 nx, .int .i64 er]) = .returned (.tuple #[.int .u64 v', .int .i64 nx', .int .i64 er']) := by
  simp only [Prod.mk.injEq] at h; rw [h.1, h.2.1, h.2.2]
theorem ret_iie {v nx er v' nx' er' : Int} (h : (v, nx, er) = (v', nx', er')) : Ending.returned (.tuple #[.int .i64 v, .int .i64 nx, .int .i64 er]) = .returned (.tuple #[.int .i64 v', .int .i64 nx', .int .i64 er']) := by
  simp only [Prod.mk.injEq] at h; rw [h.1, h.2.1, h.2.2]
theorem ret_sie {v v' : List UInt8} {nx er nx' er' : Int} (h : (v, nx, er) = (v', nx', er')) : Ending.returned (.tuple #[.string (str v), .int .i64 nx, .int .i64 er]) = .returned (.tuple #[.string (str v'), .int .i64 nx', .int .i64 er']) := by
  simp only [Prod.mk.injEq] at h; rw [h.1, h.2.1, h.2.2]
theorem clone_c (l : List UInt8) (w : World) (h : l.length ≤ 281474976710656) : Calls Tryd.prog 36 #[.string (str l)] w fun e w' => e = .returned (.string (str l)) ∧ Below w.heap.size w w' := by
  go_enter Tryd.func36, Tryd.ntmps36
  go_wp2_with fail
  refine (Tryd.stringslite_Clone (str l) _ (by rw [str_size]; exact h)).mono ?_
  rintro e w' ⟨rfl, hb⟩
  go_wp2_with fail
  go_ret
  exact ⟨rfl, hb⟩
end Go.Proofs.YtejmkboballonaaDoor
