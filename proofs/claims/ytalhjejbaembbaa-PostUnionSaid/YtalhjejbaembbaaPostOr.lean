/-
  Layer 6 (post): the document's Or.
-/
import Derived.Test.YtalhjejbaembbaaPostApp
namespace Go.Proofs.Ytalhjejbaembbaa
open Go.RowKit Go.Deep
set_option linter.unusedVariables false
set_option linter.unusedSimpArgs false
/-- What stands from place k on. -/
theorem IAt.dropped {w : World} {A : Option Addr} {n cap : Nat} {l : List Int} (h : IAt w A n cap l) (k : Nat) (hk : k ≤ n) : IAt w (if cap = k then A else A.map (·.add k)) (n - k) (cap - k) (l.drop k) := by
  have h1 := h.1
  have h2 := h.2.1
  refine ⟨by rw [List.length_drop, h1], by omega, fun i hi => ?_⟩
  rw [List.length_drop] at hi
  obtain ⟨r, ad, rfl, b1, b2⟩ := h.2.2 (k + i) (by omega)
  rw [if_neg (show ¬ cap = k by omega)]
  have ea : (ad.add k).add i = ad.add (k + i) := by
    cases i with
    | zero => rfl
    | succ i => cases k with
      | zero => simp [Addr.add]
      | succ k => simp [Addr.add]; omega
  refine ⟨by simpa using r, _, rfl, ?_, ?_⟩
  · rw [ea]; exact b1
  · rw [ea]; simpa using b2
theorem IAt.cells {w : World} {ad : Addr} {n cap : Nat} {l : List Int} (h : IAt w (some ad) n cap l) : ∀ j u, (intC l)[j]? = some u → w.cell? (ad.add j) = some u := by
  intro j u hu
  have hj : j < l.length := by
    rcases Nat.lt_or_ge j l.length with hj | hj
    · exact hj
    · rw [List.getElem?_eq_none (by simpa [intC] using hj)] at hu; cases hu
  obtain ⟨_, ad', e, _, h3⟩ := h.2.2 j hj
  injection e with e
  subst e
  rw [h3]
  have : (intC l)[j]? = some (.int .i64 l[j]) := by simp [intC, hj]
  rw [this] at hu
  exact hu
/-- Integers behind integers: the source may be nil. -/
theorem app_ints {w : World} {ops : Array Oper} {rest : List Oper} {o : Oper} {a : Act} {Q : Exit → Act → World → Prop} (hgd : o.guard = none) (s x : Operand)
    (ho : o.op = .call { callee := .builtin .append, args := #[s, x], argTypes := #[22, 22] })
    {B : Nat} {v : Value} {l : List Int} (hs : a.eval s = v) (hN : NewI B v l w) (A : Option Addr) (m c : Nat) (L : List Int) (hx : a.eval x = .slice A m c) (hA : IAt w A m c L)
    (hlen : l.length + L.length ≤ 100000) (hB : B ≤ w.heap.size)
    (h : ∀ v' w', NewI B v' (l ++ L) w' → Below B w w' → wpList Try.prog ops Q rest (a.put o.dst v') w') :
    wpList Try.prog ops Q (o :: rest) a w := by
  obtain ⟨i0, hi0, hz0, hz1, hz2⟩ := info_parts int_info
  have hm := hA.1
  subst hm
  rcases A with _ | ad
  · have hL : L = [] := by
      cases L with
      | nil => rfl
      | cons y L => obtain ⟨_, ad, e, _⟩ := hA.2.2 0 (by simp); cases e
    subst hL
    have hrun : (Builtin.append_ #[22, 22] o.type #[v, .slice none 0 c]).run Try.prog w = .ok v w := by
      rcases hN.own.2 with ⟨rfl, _⟩ | ⟨g, cap, cur, rfl, _, _, hnc, _⟩
      · simp [Builtin.append_, run_underlying Try.underlying22, sizeOf, typeInfo, hi0, Builtin.lenOf, Builtin.firstCells]
      · simp [Builtin.append_, run_underlying Try.underlying22, sizeOf, typeInfo, hi0, Builtin.lenOf, Builtin.firstCells, hnc, storeCells]
    refine wpList_plain hgd fun K hK => ?_
    unfold Oper.wp execOp
    simp only [ho, resolve, invoke, builtin, Sem.run_bind, Sem.run_pure, Result.andThen_ok, List.map_toArray, List.map_cons, List.map_nil, hs, hx, hrun, List.length_nil]
    exact hK _ _ (h v w (by simpa using hN) (Below.refl _ _))
  · refine wpList_append_own_at _ hgd s x 22 ho B 3 i0 (.int .i64 0) 1 8 Try.underlying22 hi0 hz0 hz1 hz2 rfl (by decide) v l.length _ hs hN.own ad L.length c (intC L) hx (by simp [intC]) hA.cells ?_ (by unfold maxLen; omega) (by omega) hB ?_
    · intro u hu; obtain ⟨y, _, rfl⟩ := List.mem_map.1 hu; rfl
    · intro v' w' hown hg _ _
      refine h v' w' ⟨?_, ?_⟩ ?_
      · rw [intC_append, List.length_append]; exact hown
      · intro y hy
        rcases List.mem_append.1 hy with hy | hy
        · exact hN.rng y hy
        · obtain ⟨j, hj, rfl⟩ := List.getElem_of_mem hy
          exact (hA.2.2 j hj).1
      · exact (Below.refl B w).grown hg hB (fun k hk => (hN.own.lt k hk).1)
theorem or_nil (b : List Int) : mergeL fOr [] b = b := by
  induction b with
  | nil => rw [mergeL]
  | cons y b ih => rw [mergeL, ih]; rfl
theorem or_up {x y : Int} {a b : List Int} (h : y < x) : mergeL fOr (x :: a) (y :: b) = y :: mergeL fOr (x :: a) b := by
  rw [mergeL, if_neg (by omega), if_pos h]; rfl
theorem or_eq {x : Int} {a b : List Int} : mergeL fOr (x :: a) (x :: b) = x :: mergeL fOr a b := by
  rw [mergeL, if_neg (by omega), if_neg (by omega)]; rfl
theorem or_low {x y : Int} {a b : List Int} (h : x < y) : mergeL fOr (x :: a) (y :: b) = x :: mergeL fOr a (y :: b) := by
  rw [mergeL, if_pos h]; rfl
theorem or_end {x : Int} {a : List Int} : mergeL fOr (x :: a) [] = x :: mergeL fOr a [] := by
  rw [mergeL]; rfl
set_option maxRecDepth 100000 in
set_option maxHeartbeats 1000000 in
theorem refOr_c (A A' : Option Addr) (len len' cap cap' : Nat) (l m : List Int) (w : World) (hl : l.length ≤ 10000) (hm : m.length ≤ 10000) (hA : IAt w A len cap l) (hB : IAt w A' len' cap' m) :
    Calls Try.prog 16 #[.slice A len cap, .slice A' len' cap'] w fun e w' => (∃ v, e = .returned v ∧ NewI w.heap.size v (mergeL fOr l m) w') ∧ Below w.heap.size w w' := by
  have hle := hA.1
  have hme := hB.1
  subst hle hme
  have hml := len_merge fOr l m
  go_enter Try.func16, Try.ntmps16
  go_wp2_with fail
  go_loopw [5, 6, 7] (fun v d c wr => ∃ (i k : Nat) (out : List Int) (A1 : Option Addr) (cap1 : Nat), i ≤ l.length ∧ k ≤ m.length ∧ c = .int .i64 i ∧ d = .int .i64 k ∧ v = .slice A1 out.length cap1 ∧ NewI w.heap.size (.slice A1 out.length cap1) out wr ∧ Hid (out ++ mergeL fOr (l.drop i) (m.drop k) = mergeL fOr l m) ∧ Below w.heap.size w wr) (fun _ _ c _ => l.length - (intOf c).toNat)
  case atStart => exact ⟨0, 0, [], _, _, Nat.zero_le _, Nat.zero_le _, rfl, rfl, rfl, NewI.empty w _ (Nat.le_refl _), rfl, (Below.refl _ w).alloc (Nat.le_refl _) _⟩
  case round =>
    obtain ⟨i, k, out, A1, cap1, hi, hk, rfl, rfl, rfl, hN, HO, hb⟩ := hrel
    have hbs := hb.size
    by_cases hlt : i < l.length
    · obtain ⟨⟨r1, r2⟩, ad, rfl, h2, h3⟩ := hA.2.2 i hlt
      have hdr : l.drop i = l[i] :: l.drop (i + 1) := List.drop_eq_getElem_cons hlt
      obtain ⟨x, hx⟩ : ∃ x, l[i]'hlt = x := ⟨_, rfl⟩
      rw [hx] at r1 r2 h3 hdr
      have HC := Lib.hid (fun (W : World) (hW : Below w.heap.size w W) => (hW.cell (p := ad.add i) h2).trans h3)
      have HD := Lib.hid hdr
      have HML := Lib.hid hml
      clear hdr hx h3 hml
      obtain ⟨wo, rfl⟩ : ∃ wo : World, wo = wr := ⟨_, rfl⟩
      go_wp2_with fail
      go_loopw [5, 6] (fun v d wr => ∃ (k : Nat) (out : List Int) (A1 : Option Addr) (cap1 : Nat), k ≤ m.length ∧ d = .int .i64 k ∧ v = .slice A1 out.length cap1 ∧ NewI w.heap.size (.slice A1 out.length cap1) out wr ∧ Hid (out ++ mergeL fOr (l.drop i) (m.drop k) = mergeL fOr l m) ∧ Below w.heap.size w wr) (fun _ d _ => m.length - (intOf d).toNat)
      case atStart => exact ⟨k, out, A1, cap1, hk, rfl, rfl, hN, HO.out, hb⟩
      case round =>
        clear hN HO hb hbs hk
        obtain ⟨k, out, A1, cap1, hk, rfl, rfl, hN, HO, hb2⟩ := hrel
        have hb2s := hb2.size
        have g3 := HC.out _ hb2
        have hol : out.length ≤ 20000 := by
          have h1 := congrArg List.length HO.out
          rw [List.length_append] at h1
          have h2 := HML.out
          omega
        have HN := Lib.hid hN
        clear hN
        by_cases hkt : k < m.length
        · obtain ⟨⟨s1, s2⟩, ad', rfl, k2, k3⟩ := hB.2.2 k hkt
          have hdr : m.drop k = m[k] :: m.drop (k + 1) := List.drop_eq_getElem_cons hkt
          obtain ⟨y, hy⟩ : ∃ y, m[k]'hkt = y := ⟨_, rfl⟩
          rw [hy] at s1 s2 k3 hdr
          have k3 := (hb2.cell (p := ad'.add k) k2).trans k3
          have b1 : decide ((k : Int) < (m.length : Int)) = true := by simpa using hkt
          have HM := Lib.hid hdr
          clear hy hdr
          by_cases hq : y < x
          · have t1 : decide (y < x) = true := by simpa using hq
            have HE : Hid (mergeL fOr (l.drop i) (m.drop k) = [y] ++ mergeL fOr (l.drop i) (m.drop (k + 1))) := by show _ = _; rw [HM.out, HD.out]; exact or_up hq
            clear hq
            go_wp2_with fail
            go_quiet (fail)
            go_wp2_with (at_builtin; refine app_one rfl (.tmp 30) (.tmp 35) rfl rfl (HN.out.drewN _) y rfl rfl s1 s2 (by omega) hb2s ?c1)
            case c1 =>
              intro A3 cap3 w3 L HL hN3 hb3
              have hb4 := (below_drewN hb2 _).trans hb3
              have HN3 := Lib.hid hN3
              clear hN3 g3 k3
              go_wp2_with fail
              go_roundw
              case rel => exact ⟨k + 1, L, A3, cap3, by omega, by go_num, rfl, HN3.out, by show _ = _; rw [HL.out, List.append_assoc, ← HE.out]; exact HO.out, hb4⟩
              case measure => simp [intOf]; omega
          · have t1 : decide (y < x) = false := by simpa using hq
            by_cases hq2 : x = y
            · subst hq2
              have t2 : (x == x) = true := by simp
              have HE : Hid (mergeL fOr (l.drop i) (m.drop k) = [x] ++ mergeL fOr (l.drop (i + 1)) (m.drop (k + 1))) := by show _ = _; rw [HM.out, HD.out]; exact or_eq
              clear hq
              go_wp2_with fail
              go_quiet (fail)
              go_wp2_with fail
              go_quiet (fail)
              go_wp2_with (at_builtin; refine app_one rfl (.tmp 56) (.tmp 61) rfl rfl (HN.out.drewN _) x rfl rfl r1 r2 (by omega) hb2s ?c2)
              case c2 =>
                intro A3 cap3 w3 L HL hN3 hb3
                have hb4 := (below_drewN hb2 _).trans hb3
                have HN3 := Lib.hid hN3
                clear hN3 g3 k3
                go_wp2_with fail
                go_roundw
                case rel => exact ⟨i + 1, k + 1, L, A3, cap3, by omega, by omega, by go_num, by go_num, rfl, HN3.out, by show _ = _; rw [HL.out, List.append_assoc, ← HE.out]; exact HO.out, hb4⟩
                case measure => simp [intOf]; omega
            · have t2 : (y == x) = false := by simpa using fun h => hq2 h.symm
              have HE : Hid (mergeL fOr (l.drop i) (m.drop k) = [x] ++ mergeL fOr (l.drop (i + 1)) (m.drop k)) := by show _ = _; rw [HM.out, HD.out]; exact or_low (by omega)
              clear hq hq2
              go_wp2_with fail
              go_quiet (fail)
              go_wp2_with fail
              go_quiet (fail)
              go_wp2_with (at_builtin; refine app_one rfl (.tmp 56) (.tmp 61) rfl rfl (HN.out.drewN _) x rfl rfl r1 r2 (by omega) hb2s ?c2)
              case c2 =>
                intro A3 cap3 w3 L HL hN3 hb3
                have hb4 := (below_drewN hb2 _).trans hb3
                have HN3 := Lib.hid hN3
                clear hN3 g3 k3
                go_wp2_with fail
                go_roundw
                case rel => exact ⟨i + 1, k, L, A3, cap3, by omega, by omega, by go_num, rfl, rfl, HN3.out, by show _ = _; rw [HL.out, List.append_assoc, ← HE.out]; exact HO.out, hb4⟩
                case measure => simp [intOf]; omega
        · have b1 : decide ((k : Int) < (m.length : Int)) = false := by simpa using hkt
          have HE : Hid (mergeL fOr (l.drop i) (m.drop k) = [x] ++ mergeL fOr (l.drop (i + 1)) (m.drop k)) := by
            show _ = _
            rw [List.drop_of_length_le (show m.length ≤ k by omega), HD.out]; exact or_end
          clear b1
          go_wp2_with fail
          go_quiet (fail)
          go_wp2_with fail
          go_quiet (fail)
          go_wp2_with (at_builtin; refine app_one rfl (.tmp 56) (.tmp 61) rfl rfl (HN.out.drewN _) x rfl rfl r1 r2 (by omega) hb2s ?c2)
          case c2 =>
            intro A3 cap3 w3 L HL hN3 hb3
            have hb4 := (below_drewN hb2 _).trans hb3
            have HN3 := Lib.hid hN3
            clear hN3 g3
            go_wp2_with fail
            go_roundw
            case rel => exact ⟨i + 1, k, L, A3, cap3, by omega, by omega, by go_num, rfl, rfl, HN3.out, by show _ = _; rw [HL.out, List.append_assoc, ← HE.out]; exact HO.out, hb4⟩
            case measure => simp [intOf]; omega
    · obtain rfl : i = l.length := by omega
      have e : out ++ m.drop k = mergeL fOr l m := by
        have := HO.out
        rwa [List.drop_length, or_nil] at this
      have hol : out.length + (m.drop k).length ≤ 100000 := by
        have h1 := congrArg List.length e
        rw [List.length_append] at h1
        omega
      have hk2 : (0 : Int) ≤ (k : Int) := by omega
      have hcap : m.length ≤ cap' := hB.2.1
      have hD := (hB.below hb).dropped k hk
      obtain ⟨X, hX⟩ : ∃ X, (if cap' = k then A' else A'.map (·.add k)) = X := ⟨_, rfl⟩
      rw [hX] at hD
      have HE := Lib.hid e
      have HD := Lib.hid hD
      have HN := Lib.hid hN
      clear e hN hD hml
      go_wp2_with (at_builtin; refine app_ints rfl (.tmp 63) (.tmp 66) rfl rfl HN.out X (m.length - k) (cap' - k) (m.drop k) rfl HD.out hol hbs ?c3)
      case c3 =>
        intro v3 w3 hN3 hb3
        have HN3 := Lib.hid hN3
        clear hN3
        go_wp2_with fail
        go_ret
        exact ⟨⟨_, rfl, HE.out ▸ HN3.out⟩, hb.trans hb3⟩
end Go.Proofs.Ytalhjejbaembbaa
