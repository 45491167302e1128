/-
  Layer 6 (post): the document's And, Not and Or.
-/
import Derived.Test.YtalhjejbaembbaaPostApp
namespace Go.Proofs.Ytalhjejbaembbaa
open Go.RowKit Go.Deep
set_option linter.unusedVariables false
set_option linter.unusedSimpArgs false
theorem filter_take (p : Int → Bool) (l : List Int) (i : Nat) (h : i < l.length) : (l.take (i + 1)).filter p = (l.take i).filter p ++ if p l[i] = true then [l[i]] else [] := by
  rw [List.take_succ_eq_append_getElem h, List.filter_append]
  cases hp : p l[i] <;> simp [hp]
set_option maxRecDepth 100000 in
theorem refAnd_c (A A' : Option Addr) (len len' cap cap' : Nat) (l m : List Int) (w : World) (hl : l.length ≤ 10000) (hm : m.length ≤ 10000) (hA : IAt w A len cap l) (hB : IAt w A' len' cap' m) :
    Calls Try.prog 15 #[.slice A len cap, .slice A' len' cap'] w fun e w' => (∃ v, e = .returned v ∧ NewI w.heap.size v (andL l m) w') ∧ Below w.heap.size w w' := by
  have hle := hA.1
  have hme := hB.1
  subst hle hme
  go_enter Try.func15, Try.ntmps15
  go_wp2_with fail
  go_loopw [5, 6] (fun v c wr => ∃ (i : Nat) (out : List Int) (A1 : Option Addr) (cap1 : Nat), i ≤ l.length ∧ c = .int .i64 i ∧ v = .slice A1 out.length cap1 ∧ NewI w.heap.size (.slice A1 out.length cap1) out wr ∧ Hid (out = (l.take i).filter (fun x => decide (x ∈ m))) ∧ Below w.heap.size w wr) (fun _ c _ => l.length - (intOf c).toNat)
  case atStart => exact ⟨0, [], _, _, Nat.zero_le _, rfl, rfl, NewI.empty w _ (Nat.le_refl _), rfl, (Below.refl _ w).alloc (Nat.le_refl _) _⟩
  case round =>
    obtain ⟨i, out, A1, cap1, hi, rfl, rfl, hN, HO, hb⟩ := hrel
    have hbs := hb.size
    by_cases hlt : i < l.length
    · obtain ⟨⟨r1, r2⟩, ad, rfl, h2, h3⟩ := hA.2.2 i hlt
      have hst := filter_take (fun x => decide (x ∈ m)) l i hlt
      rw [← HO.out] at hst
      have hol : out.length ≤ 10000 := by rw [HO.out]; exact Nat.le_trans (List.length_filter_le _ _) (by rw [List.length_take]; omega)
      obtain ⟨x, hx⟩ : ∃ x, l[i]'hlt = x := ⟨_, rfl⟩
      rw [hx] at r1 r2 h3 hst
      have h3 := (hb.cell (p := ad.add i) h2).trans h3
      have cH := Lib.hid (refHas_c A' m.length cap' m x wr (by omega) (hB.below hb))
      by_cases hq : x ∈ m
      · have e : decide (x ∈ m) = true := decide_eq_true hq
        rw [e] at cH
        simp only [e] at hst
        have HS := Lib.hid hst
        have HN := Lib.hid hN
        clear hst hx hN e hq
        go_wp2_with (first | (go_at_call 19; refine cH.out.mono ?_; rintro e w1 ⟨rfl, rfl⟩; dsimp only) | (at_builtin; refine app_one rfl (.tmp 20) (.tmp 25) rfl rfl HN.out x rfl rfl r1 r2 (by omega) hbs ?c1))
        case c1 =>
          intro A2 cap2 w2 L HL hN2 hb2
          have hb3 := hb.trans hb2
          have HN2 := Lib.hid hN2
          clear hN2 h3 cH
          go_wp2_with fail
          go_roundw
          case rel => exact ⟨i + 1, L, A2, cap2, by omega, by go_num, rfl, HN2.out, by show _ = _; rw [HL.out, HS.out]; rfl, hb3⟩
          case measure => simp [intOf]; omega
      · have e : decide (x ∈ m) = false := decide_eq_false hq
        rw [e] at cH
        simp only [e] at hst
        have HS := Lib.hid hst
        have HN := Lib.hid hN
        clear hst hx hN e hq
        go_wp2_with (go_at_call 19; refine cH.out.mono ?_; rintro e w1 ⟨rfl, rfl⟩; dsimp only)
        go_roundw
        case rel => exact ⟨i + 1, out, A1, cap1, by omega, by go_num, rfl, HN.out, by show _ = _; rw [HS.out]; exact (List.append_nil _).symm, hb⟩
        case measure => simp [intOf]; omega
    · obtain rfl : i = l.length := by omega
      have e : out = andL l m := by rw [HO.out, List.take_length]; rfl
      have HE := Lib.hid e
      have HN := Lib.hid hN
      clear e hN
      go_wp2_with fail
      go_ret
      exact ⟨⟨_, rfl, HE.out ▸ HN.out⟩, hb⟩
set_option maxRecDepth 100000 in
theorem refNot_c (A A' : Option Addr) (len len' cap cap' : Nat) (l m : List Int) (w : World) (hl : l.length ≤ 10000) (hm : m.length ≤ 10000) (hA : IAt w A len cap l) (hB : IAt w A' len' cap' m) :
    Calls Try.prog 17 #[.slice A len cap, .slice A' len' cap'] w fun e w' => (∃ v, e = .returned v ∧ NewI w.heap.size v (notL l m) w') ∧ Below w.heap.size w w' := by
  have hle := hA.1
  have hme := hB.1
  subst hle hme
  go_enter Try.func17, Try.ntmps17
  go_wp2_with fail
  go_loopw [5, 6] (fun v c wr => ∃ (i : Nat) (out : List Int) (A1 : Option Addr) (cap1 : Nat), i ≤ l.length ∧ c = .int .i64 i ∧ v = .slice A1 out.length cap1 ∧ NewI w.heap.size (.slice A1 out.length cap1) out wr ∧ Hid (out = (l.take i).filter (fun x => !decide (x ∈ m))) ∧ Below w.heap.size w wr) (fun _ c _ => l.length - (intOf c).toNat)
  case atStart => exact ⟨0, [], _, _, Nat.zero_le _, rfl, rfl, NewI.empty w _ (Nat.le_refl _), rfl, (Below.refl _ w).alloc (Nat.le_refl _) _⟩
  case round =>
    obtain ⟨i, out, A1, cap1, hi, rfl, rfl, hN, HO, hb⟩ := hrel
    have hbs := hb.size
    by_cases hlt : i < l.length
    · obtain ⟨⟨r1, r2⟩, ad, rfl, h2, h3⟩ := hA.2.2 i hlt
      have hst := filter_take (fun x => !decide (x ∈ m)) l i hlt
      rw [← HO.out] at hst
      have hol : out.length ≤ 10000 := by rw [HO.out]; exact Nat.le_trans (List.length_filter_le _ _) (by rw [List.length_take]; omega)
      obtain ⟨x, hx⟩ : ∃ x, l[i]'hlt = x := ⟨_, rfl⟩
      rw [hx] at r1 r2 h3 hst
      have h3 := (hb.cell (p := ad.add i) h2).trans h3
      have cH := Lib.hid (refHas_c A' m.length cap' m x wr (by omega) (hB.below hb))
      by_cases hq : x ∈ m
      · have e : decide (x ∈ m) = true := decide_eq_true hq
        rw [e] at cH
        simp only [e] at hst
        have HS := Lib.hid hst
        have HN := Lib.hid hN
        clear hst hx hN e hq
        go_wp2_with (go_at_call 19; refine cH.out.mono ?_; rintro e w1 ⟨rfl, rfl⟩; dsimp only)
        go_roundw
        case rel => exact ⟨i + 1, out, A1, cap1, by omega, by go_num, rfl, HN.out, by show _ = _; rw [HS.out]; exact (List.append_nil _).symm, hb⟩
        case measure => simp [intOf]; omega
      · have e : decide (x ∈ m) = false := decide_eq_false hq
        rw [e] at cH
        simp only [e] at hst
        have HS := Lib.hid hst
        have HN := Lib.hid hN
        clear hst hx hN e hq
        go_wp2_with (first | (go_at_call 19; refine cH.out.mono ?_; rintro e w1 ⟨rfl, rfl⟩; dsimp only) | (at_builtin; refine app_one rfl (.tmp 21) (.tmp 26) rfl rfl HN.out x rfl rfl r1 r2 (by omega) hbs ?c1))
        case c1 =>
          intro A2 cap2 w2 L HL hN2 hb2
          have hb3 := hb.trans hb2
          have HN2 := Lib.hid hN2
          clear hN2 h3 cH
          go_wp2_with fail
          go_roundw
          case rel => exact ⟨i + 1, L, A2, cap2, by omega, by go_num, rfl, HN2.out, by show _ = _; rw [HL.out, HS.out]; rfl, hb3⟩
          case measure => simp [intOf]; omega
    · obtain rfl : i = l.length := by omega
      have e : out = notL l m := by rw [HO.out, List.take_length]; rfl
      have HE := Lib.hid e
      have HN := Lib.hid hN
      clear e hN
      go_wp2_with fail
      go_ret
      exact ⟨⟨_, rfl, HE.out ▸ HN.out⟩, hb⟩
end Go.Proofs.Ytalhjejbaembbaa
