/-
  Layer 1 (zig): what each call of the document's own answer returns; all that was in memory stays.
-/
import Derived.Test.YtejmkboballonaaDoorZig
import Derived.Outline
import Derived.Deep.OwnRows
import Derived.BigQuiet
import Derived.Deep.QuietTactic
import Derived.Deep.RegionWith
namespace Go.Proofs.YtejmkboballonaaDoor
open Go.RowKit Go.Deep
attribute [local go_sem] str_size str_append str_toList str_get str_extract

theorem refUint_c (n : Nat) (w : World) (h2 : n < 18446744073709551616) : Calls Tryd.prog 42 #[.int .u64 n] w fun e w' => e = .returned (.string (str (uv n))) ∧ Below w.heap.size w w' := by
  have hcv := conv_one (P := Tryd.prog) 39 9 5 Tryd.underlying39 Tryd.underlying5 Tryd.underlying9
  go_enter Tryd.func42, Tryd.ntmps42
  go_wp2_with fail
  go_loopw [0, 3] (fun a s wr => ∃ (m : Nat) (p : List UInt8), m < 18446744073709551616 ∧ a = .int .u64 m ∧ s = .string (str p) ∧ p ++ uv m = uv n ∧ Below w.heap.size w wr) (fun a _ _ => (intOf a).toNat)
  case atStart => exact ⟨n, [], h2, rfl, rfl, rfl, Below.refl _ _⟩
  case round =>
    obtain ⟨m, p, hm, rfl, rfl, hp, hb⟩ := hrel
    have hpl : p.length ≤ 10 := by
      have := uv_len10 h2
      have h := congrArg List.length hp
      rw [List.length_append] at h
      omega
    have HP := Lib.hid hp
    clear hp
    by_cases hlt : m < 128
    · go_wp2
      go_ret
      refine ⟨ret_str ?_, hb.alloc hb.size _⟩
      rw [← HP.out, uv_lt hlt]
    · go_wp2
      go_roundw
      case rel =>
        refine ⟨m / 128, _, by omega, rfl, rfl, ?_, hb.alloc hb.size _⟩
        rw [← HP.out, uv_ge hlt, List.append_assoc, UInt8.ofNat_add]
        rfl
      case measure => simp [intOf]; omega
theorem refText_c (l : List UInt8) (w : World) (h : l.length ≤ 4611686018427387904) : Calls Tryd.prog 33 #[.string (str l)] w fun e w' => e = .returned (.string (str (tx l))) ∧ Below w.heap.size w w' := by
  have h10 := uv_len10 (n := l.length) (by omega)
  go_enter Tryd.func33, Tryd.ntmps33
  go_wp2_with fail
  refine (refUint_c l.length _ (by omega)).mono ?_
  rintro e w' ⟨rfl, hb⟩
  go_wp2_with fail
  go_ret
  exact ⟨rfl, hb⟩
end Go.Proofs.YtejmkboballonaaDoor
