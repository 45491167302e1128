/-
  Layer 6 (post): an integer behind a row of the call's own; rising ones of a list; the document's And and Not.
-/
import Derived.Test.YtalhjejbaembbaaPostMem
namespace Go.Proofs.Ytalhjejbaembbaa
open Go.RowKit Go.Deep
set_option linter.unusedVariables false
set_option linter.unusedSimpArgs false

theorem app_one {ops : Array Oper} {rest : List Oper} {o : Oper} {a : Act} {Q : Exit → Act → World → Prop} {w w0 : World} (hgd : o.guard = none) (s x : Operand)
    (ho : o.op = .call { callee := .builtin .append, args := #[s, x], argTypes := #[22, 22] })
    {B : Nat} {v : Value} {l : List Int} (hs : a.eval s = v) (hN : NewI B v l w0) (n : Int) (hx : a.eval x = .slice (some ⟨w0.heap.size, 0, none⟩) 1 1) (hw : w = w0.alloc (.cells #[.int .i64 n] 3))
    (h1 : -9223372036854775808 ≤ n) (h2 : n ≤ 9223372036854775807) (hlen : l.length ≤ 100000) (hB : B ≤ w0.heap.size)
    (h : ∀ A cap w' L, Hid (L = l ++ [n]) → NewI B (.slice A L.length cap) L w' → Below B w0 w' → wpList Try.prog ops Q rest (a.put o.dst (.slice A L.length cap)) w') :
    wpList Try.prog ops Q (o :: rest) a w := by
  obtain ⟨i0, hi0, hz0, hz1, hz2⟩ := info_parts int_info
  subst hw
  refine wpList_append_own_at _ hgd s x 22 ho B 3 i0 (.int .i64 0) 1 8 Try.underlying22 hi0 hz0 hz1 hz2 rfl (by decide) v l.length _ hs (hN.own.alloc _) ⟨w0.heap.size, 0, none⟩ 1 1 [.int .i64 n] hx rfl (cell_one_new _ _ _) ?_ (by unfold maxLen; omega) (by omega) (by simp; omega) ?_
  · intro u hu; simp at hu; subst hu; rfl
  · intro v' w' hown hg _ _
    obtain ⟨A, cap, rfl⟩ := row_slice hown
    have e : (l ++ [n]).length = l.length + 1 := by simp
    rw [← e] at hown ⊢
    refine h A cap w' (l ++ [n]) rfl ⟨?_, ?_⟩ ?_
    · rw [intC_append]; exact hown
    · intro y hy
      rcases List.mem_append.1 hy with hy | hy
      · exact hN.rng y hy
      · simp at hy; subst hy; exact ⟨h1, h2⟩
    · exact (((Below.refl B w0).alloc hB _).grown hg (by simp; omega) (fun k hk => (hN.own.lt k hk).1))
theorem NewI.empty (w : World) (B : Nat) (hB : B ≤ w.heap.size) : NewI B (.slice (some ⟨w.heap.size, 0, none⟩) 0 0) [] (w.alloc (.cells #[] 3)) :=
  ⟨(World.ownsRow_made w #[] 0 (Nat.le_refl _) (by unfold maxLen; omega) rfl).mono hB, by simp⟩
theorem IAt.last {w : World} {A : Option Addr} {n cap : Nat} {l : List Int} (h : IAt w A n cap l) (hl : l ≠ []) :
    ∃ ad m y, A = some ad ∧ l.length = m + 1 ∧ (ad.add m).block < w.heap.size ∧ w.cell? (ad.add m) = some (.int .i64 y) ∧ l.getLast? = some y ∧ -9223372036854775808 ≤ y ∧ y ≤ 9223372036854775807 := by
  have hp := List.length_pos_iff.2 hl
  obtain ⟨⟨r1, r2⟩, ad, rfl, h1, h2⟩ := h.2.2 (l.length - 1) (by omega)
  exact ⟨ad, l.length - 1, _, rfl, by omega, h1, h2, by rw [List.getLast?_eq_getElem?, List.getElem?_eq_getElem], r1, r2⟩
set_option maxRecDepth 100000 in
set_option maxHeartbeats 1000000 in
theorem rising_c (A : Option Addr) (len cap : Nat) (l : List Int) (w : World) (hl : len ≤ 9223372036854775807) (hA : IAt w A len cap l) :
    Calls Try.prog 8 #[.slice A len cap] w fun e w' => (∃ v, e = .returned v ∧ NewI w.heap.size v (risL l) w') ∧ Below w.heap.size w w' := by
  have hle := hA.1
  subst hle
  go_enter Try.func8, Try.ntmps8
  go_wp2_with fail
  go_loopw [3, 4] (fun v c wr => ∃ (i : Nat) (out : List Int) (A1 : Option Addr) (cap1 : Nat), i ≤ l.length ∧ i ≤ 200 ∧ c = .int .i64 i ∧ v = .slice A1 out.length cap1 ∧ NewI w.heap.size (.slice A1 out.length cap1) out wr ∧ Hid (out = (l.take i).foldl stepR [] ∧ out.length ≤ 200) ∧ Below w.heap.size w wr) (fun _ c _ => l.length - (intOf c).toNat)
  case atStart => exact ⟨0, [], _, _, Nat.zero_le _, Nat.zero_le _, rfl, rfl, NewI.empty w _ (Nat.le_refl _), ⟨rfl, by simp⟩, (Below.refl _ w).alloc (Nat.le_refl _) _⟩
  case round =>
    obtain ⟨i, out, A1, cap1, hi, hi2, rfl, rfl, hN, HO, hb⟩ := hrel
    have hbs := hb.size
    by_cases hlt : i < l.length
    · by_cases hlt2 : i < 200
      · obtain ⟨⟨r1, r2⟩, ad, rfl, h2, h3⟩ := hA.2.2 i hlt
        have hst := fold_take l i hlt
        rw [← HO.out.1] at hst
        obtain ⟨x, hx⟩ : ∃ x, l[i]'hlt = x := ⟨_, rfl⟩
        rw [hx] at r1 r2 h3 hst
        have HC := Lib.hid (fun (W : World) (hW : Below w.heap.size w W) => (hW.cell (p := ad.add i) h2).trans h3)
        have h3 := HC.out _ hb
        have b1 : decide ((i : Int) < (l.length : Int)) = true := by simpa using hlt
        have b2 : decide ((i : Int) < 200) = true := by simpa using by omega
        have hol : out.length ≤ 200 := HO.out.2
        have hle : (stepR out x).length ≤ 200 := by
          rw [← hst]
          have := len_foldR (l.take (i + 1)) []
          rw [List.length_take] at this
          simp at this; omega
        have HS : Hid ((l.take (i + 1)).foldl stepR [] = stepR out x ∧ (stepR out x).length ≤ 200) := ⟨hst, hle⟩
        clear hst hle hx
        by_cases hp : out = []
        · have b0 : ((out.length : Int) == 0) = true := by rw [hp]; rfl
          have HE : Hid (stepR out x = out ++ [x]) := by show _ = _; rw [hp]; rfl
          have HN := Lib.hid hN
          clear hp hN
          go_wp2_with fail
          go_quiet (fail)
          go_wp2_with (at_builtin; refine app_one rfl (.tmp 32) (.tmp 37) rfl rfl (HN.out.drewN _) x rfl rfl r1 r2 (by omega) hbs ?c1)
          case c1 =>
            intro A2 cap2 w2 L HL hN2 hb2
            have hb3 := (below_drewN hb _).trans hb2
            have HN2 := Lib.hid hN2
            clear hN2 h3
            go_wp2_with fail
            go_roundw
            case rel => exact ⟨i + 1, L, A2, cap2, by omega, by omega, by go_num, rfl, HN2.out, ⟨by rw [HL.out, HS.out.1, HE.out], by rw [HL.out, ← HE.out]; exact HS.out.2⟩, hb3⟩
            case measure => simp [intOf]; omega
        · obtain ⟨A0, cap0, e, hI⟩ := hN.at
          injection e with e1 e2 e3
          subst e1 e3
          obtain ⟨ad1, m, y, rfl, hnm, k2, k3, hy, y1, y2⟩ := hI.last hp
          have b0 : ((out.length : Int) == 0) = false := by simpa using by omega
          have b3 : IntKind.i64.wrap ((out.length : Int) - 1) = (m : Int) := by rw [hnm, show ((m + 1 : Nat) : Int) - 1 = m by omega]; exact IntWalk.i64_in _ (by omega)
          have b4 : m < out.length := by omega
          have b5 : (m : Int) < (out.length : Int) := by omega
          have b6 : (0 : Int) ≤ (m : Int) := by omega
          clear hI hnm
          by_cases hq : y < x
          · have t1 : decide (y < x) = true := by simpa using hq
            have HE : Hid (stepR out x = out ++ [x]) := by show _ = _; unfold stepR; rw [hy]; exact if_pos hq
            have HN := Lib.hid hN
            clear hp hN hy hq
            go_wp2_with fail
            go_quiet (fail)
            go_wp2_with (at_builtin; refine app_one rfl (.tmp 32) (.tmp 37) rfl rfl (HN.out.drewN _) x rfl rfl r1 r2 (by omega) hbs ?c1)
            case c1 =>
              intro A2 cap2 w2 L HL hN2 hb2
              have hb3 := (below_drewN hb _).trans hb2
              have HN2 := Lib.hid hN2
              clear hN2 h3 k2 k3
              go_wp2_with fail
              go_roundw
              case rel => exact ⟨i + 1, L, A2, cap2, by omega, by omega, by go_num, rfl, HN2.out, ⟨by rw [HL.out, HS.out.1, HE.out], by rw [HL.out, ← HE.out]; exact HS.out.2⟩, hb3⟩
              case measure => simp [intOf]; omega
          · have t1 : decide (y < x) = false := by simpa using hq
            have HE : Hid (stepR out x = out) := by show _ = _; unfold stepR; rw [hy]; exact if_neg hq
            have HN := Lib.hid hN
            clear hp hN hy hq
            go_wp2_with fail
            go_quiet (fail)
            go_wp2_with fail
            go_roundw
            case rel => exact ⟨i + 1, out, some ad1, cap1, by omega, by omega, by go_num, rfl, HN.out.drewN _, ⟨by rw [HS.out.1, HE.out], hol⟩, below_drewN hb _⟩
            case measure => simp [intOf]; omega
      · have e : out = risL l := by rw [HO.out.1, show i = 200 by omega]; rfl
        have b2 : decide ((i : Int) < 200) = false := by simpa using by omega
        have HE := Lib.hid e
        have HN := Lib.hid hN
        clear e hN
        go_wp2_with fail
        go_ret
        exact ⟨⟨_, rfl, HE.out ▸ HN.out⟩, hb⟩
    · have e : out = risL l := by rw [HO.out.1]; unfold risL; rw [List.take_of_length_le (by omega), List.take_of_length_le (by omega)]
      have HE := Lib.hid e
      have HN := Lib.hid hN
      clear e hN
      go_wp2_with fail
      go_ret
      exact ⟨⟨_, rfl, HE.out ▸ HN.out⟩, hb⟩
end Go.Proofs.Ytalhjejbaembbaa
