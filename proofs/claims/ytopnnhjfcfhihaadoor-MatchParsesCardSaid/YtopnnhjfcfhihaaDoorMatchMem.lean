/-
  Layer 5 (match): matchers, plain; a matcher and a row of strings in memory.
-/
import Derived.Test.YtopnnhjfcfhihaaDoorLabelMem
import Derived.Test.YtopnnhjfcfhihaaDoorLabelForm
namespace Go.Proofs.YtopnnhjfcfhihaaDoor
open Go.RowKit Go.Deep
attribute [local go_sem] str_size str_append str_toList str_get str_extract
set_option linter.unusedVariables false
set_option linter.unusedSimpArgs false
/-- A matcher: its kind, name, value, set. -/
abbrev Mat := Int × List UInt8 × List UInt8 × List (List UInt8)
def oneL (m : Mat) (l : List Lab) : Bool :=
  if m.1 = 0 then getL l m.2.1 == m.2.2.1
  else if m.1 = 1 then getL l m.2.1 != m.2.2.1
  else if m.1 = 2 then Lib.hasPrefix (getL l m.2.1) m.2.2.1
  else if m.1 = 3 then m.2.2.2.any (fun x => x == getL l m.2.1)
  else false
/-- A row of strings that was there. -/
def StrsAt (w : World) (A : Option Addr) (len : Nat) (l : List (List UInt8)) : Prop :=
  len = l.length ∧ ∀ i (h : i < l.length), l[i].length ≤ 9223372036854775807 ∧
    ∃ ad, A = some ad ∧ (ad.add i).block < w.heap.size ∧ w.cell? (ad.add i) = some (.string (str l[i]))
theorem StrsAt.below {w w' : World} {A : Option Addr} {len : Nat} {l : List (List UInt8)} (h : StrsAt w A len l) (hb : Below w.heap.size w w') : StrsAt w' A len l :=
  ⟨h.1, fun i hi => by
    obtain ⟨h1, ad, rfl, h2, h3⟩ := h.2 i hi
    exact ⟨h1, ad, rfl, Nat.lt_of_lt_of_le h2 hb.size, (hb.cell (p := ad.add i) h2).trans h3⟩⟩
theorem StrsAt.nil (w : World) (A : Option Addr) : StrsAt w A 0 [] := ⟨rfl, fun i h => by simp at h⟩
/-- A slice of matchers that was there. -/
def MsAt (w : World) (A : Option Addr) (len : Nat) (l : List Mat) : Prop :=
  len = l.length ∧ ∀ i (h : i < l.length), (l[i].2.1.length ≤ 9223372036854775807 ∧ l[i].2.2.1.length ≤ 9223372036854775807 ∧ l[i].2.2.2.length ≤ 9223372036854775807 ∧ -9223372036854775808 ≤ l[i].1 ∧ l[i].1 ≤ 9223372036854775807) ∧
    ∃ ad, A = some ad ∧ (ad.add (i * 4)).block < w.heap.size ∧ w.cell? (ad.add (i * 4)) = some (.int .i64 l[i].1) ∧ w.cell? ⟨(ad.add (i * 4)).block, (ad.add (i * 4)).off + 1, none⟩ = some (.string (str l[i].2.1)) ∧
      w.cell? ⟨(ad.add (i * 4)).block, (ad.add (i * 4)).off + 2, none⟩ = some (.string (str l[i].2.2.1)) ∧ ∃ S cap, w.cell? ⟨(ad.add (i * 4)).block, (ad.add (i * 4)).off + 3, none⟩ = some (.slice S l[i].2.2.2.length cap) ∧ StrsAt w S l[i].2.2.2.length l[i].2.2.2
theorem MsAt.below {w w' : World} {A : Option Addr} {len : Nat} {l : List Mat} (h : MsAt w A len l) (hb : Below w.heap.size w w') : MsAt w' A len l :=
  ⟨h.1, fun i hi => by
    obtain ⟨h1, ad, rfl, h2, h3, h4, h5, S, cap, h6, h7⟩ := h.2 i hi
    exact ⟨h1, ad, rfl, Nat.lt_of_lt_of_le h2 hb.size, (hb.cell (p := ad.add (i * 4)) h2).trans h3, (hb.cell (p := ⟨(ad.add (i * 4)).block, (ad.add (i * 4)).off + 1, none⟩) h2).trans h4,
      (hb.cell (p := ⟨(ad.add (i * 4)).block, (ad.add (i * 4)).off + 2, none⟩) h2).trans h5, S, cap, (hb.cell (p := ⟨(ad.add (i * 4)).block, (ad.add (i * 4)).off + 3, none⟩) h2).trans h6, h7.below hb⟩⟩
theorem MsAt.nil (w : World) (A : Option Addr) : MsAt w A 0 [] := ⟨rfl, fun i h => by simp at h⟩
theorem any_take {α : Type} (p : α → Bool) (l : List α) (i : Nat) (h : i < l.length) : (l.take (i + 1)).any p = ((l.take i).any p || p l[i]) := by
  rw [List.take_succ_eq_append_getElem h, List.any_append]; simp
theorem drop_any {α : Type} (p : α → Bool) (l : List α) (i : Nat) (h : i < l.length) : (l.drop i).any p = (p l[i] || (l.drop (i + 1)).any p) := by
  rw [List.drop_eq_getElem_cons h, List.any_cons]
set_option maxHeartbeats 400000 in
theorem strIndex_c (A : Option Addr) (len cap : Nat) (l : List (List UInt8)) (x : List UInt8) (w : World) (hl : len ≤ 9223372036854775807) (hA : StrsAt w A len l) :
    Calls Tryd.prog 52 #[.slice A len cap, .string (str x)] w fun e w' => (∃ k : Int, e = .returned (.int .i64 k) ∧ decide (k ≥ 0) = l.any (fun y => y == x)) ∧ w = w' := by
  have hle := hA.1
  subst hle
  obtain ⟨R, hR⟩ : ∃ R, l.any (fun y => y == x) = R := ⟨_, rfl⟩
  rw [hR]
  have HR := Lib.hid hR
  clear hR
  go_enter Tryd.func52, Tryd.ntmps52
  go_wp2_with fail
  go_loopw [8] (fun c wr => ∃ i : Nat, i ≤ l.length ∧ c = .int .i64 i ∧ Hid ((l.drop i).any (fun y => y == x) = R) ∧ w = wr) (fun c _ => l.length - (intOf c).toNat)
  case atStart => exact ⟨0, Nat.zero_le _, rfl, HR.out, rfl⟩
  case round =>
    obtain ⟨i, hi, rfl, HI, rfl⟩ := hrel
    by_cases hlt : i < l.length
    · obtain ⟨h1, ad, rfl, h2, h3⟩ := hA.2 i hlt
      have hst := drop_any (fun y => y == x) l i hlt
      rw [HI.out] at hst
      have HS := Lib.hid hst
      by_cases hq : l[i] = x
      · have t1 : (x == l[i]) = true := by rw [hq]; simp
        have e : R = true := by rw [hst, hq]; simp
        subst e
        clear hst hq
        go_wp2_with fail
        go_ret
        exact ⟨⟨_, rfl, by simp⟩, rfl⟩
      · have t1 : (x == l[i]) = false := by rw [beq_eq_false_iff_ne]; exact fun h => hq h.symm
        have e : (l[i] == x) = false := by rw [beq_eq_false_iff_ne]; exact hq
        have e2 : (l.drop (i + 1)).any (fun y => y == x) = R := by rw [hst, e]; rfl
        have HE := Lib.hid e2
        clear hst hq e e2
        go_wp2_with fail
        go_roundw
        case rel => exact ⟨i + 1, by omega, by go_num, HE.out, by first | rfl | trivial⟩
        case measure => simp [intOf]; omega
    · obtain rfl : i = l.length := by omega
      have e := HI.out
      rw [List.drop_length] at e
      have e2 : R = false := e.symm
      subst e2
      clear e
      go_wp2_with fail
      go_ret
      exact ⟨⟨_, rfl, by decide⟩, rfl⟩
theorem contains_c (A : Option Addr) (len cap : Nat) (l : List (List UInt8)) (x : List UInt8) (w : World) (hl : len ≤ 9223372036854775807) (hA : StrsAt w A len l) :
    Calls Tryd.prog 36 #[.slice A len cap, .string (str x)] w fun e w' => e = .returned (.bool (l.any (fun y => y == x))) ∧ w = w' := by
  have ci := Lib.hid (strIndex_c A len cap l x w hl hA)
  go_enter Tryd.func36, Tryd.ntmps36
  go_wp2_with (go_at_call 52; refine ci.out.mono ?_; rintro e w1 ⟨⟨k, rfl, hk⟩, rfl⟩; have HK := Lib.hid hk; clear hk; dsimp only)
  go_ret
  exact ⟨by rw [← HK.out]; rfl, rfl⟩
theorem find1_c (m : Mat) (A : Option Addr) (cap : Nat) (v : List UInt8) (w : World) :
    Calls Tryd.prog 32 #[.agg #[.int .i64 m.1, .string (str m.2.1), .string (str m.2.2.1), .slice A m.2.2.2.length cap], .string (str v)] w fun e w' => e = .returned (.bool (v == m.2.2.1)) ∧ Below w.heap.size w w' := by
  go_enter Tryd.func32, Tryd.ntmps32
  go_wp2_with fail
  go_ret
  exact ⟨rfl, (Below.refl _ _).alloc (Nat.le_refl _) _⟩
theorem find2_c (m : Mat) (A : Option Addr) (cap : Nat) (v : List UInt8) (w : World) :
    Calls Tryd.prog 33 #[.agg #[.int .i64 m.1, .string (str m.2.1), .string (str m.2.2.1), .slice A m.2.2.2.length cap], .string (str v)] w fun e w' => e = .returned (.bool (Lib.hasPrefix v m.2.2.1)) ∧ Below w.heap.size w w' := by
  have cp := fun W => Tryd.strings_HasPrefix (str v) (str m.2.2.1) W
  rw [str_data, str_data] at cp
  go_enter Tryd.func33, Tryd.ntmps33
  go_wp2_with (go_at_call 34; refine (cp _).mono ?_; rintro e w1 ⟨rfl, rfl⟩; dsimp only)
  go_ret
  exact ⟨rfl, (Below.refl _ _).alloc (Nat.le_refl _) _⟩
theorem find3_c (m : Mat) (A : Option Addr) (cap : Nat) (v : List UInt8) (w : World) (hl : m.2.2.2.length ≤ 9223372036854775807) (hA : StrsAt w A m.2.2.2.length m.2.2.2) :
    Calls Tryd.prog 35 #[.agg #[.int .i64 m.1, .string (str m.2.1), .string (str m.2.2.1), .slice A m.2.2.2.length cap], .string (str v)] w fun e w' => e = .returned (.bool (m.2.2.2.any (fun y => y == v))) ∧ Below w.heap.size w w' := by
  have hb1 : Below w.heap.size w (w.alloc (.cells #[.int .i64 m.1, .string (str m.2.1), .string (str m.2.2.1), .slice A m.2.2.2.length cap] 30)) := (Below.refl _ _).alloc (Nat.le_refl _) _
  have cp := contains_c A m.2.2.2.length cap m.2.2.2 v _ hl (hA.below hb1)
  go_enter Tryd.func35, Tryd.ntmps35
  go_wp2_with (go_at_call 36; refine cp.mono ?_; rintro e w1 ⟨rfl, rfl⟩; dsimp only)
  go_ret
  exact ⟨rfl, (Below.refl _ _).alloc (Nat.le_refl _) _⟩
end Go.Proofs.YtopnnhjfcfhihaaDoor
