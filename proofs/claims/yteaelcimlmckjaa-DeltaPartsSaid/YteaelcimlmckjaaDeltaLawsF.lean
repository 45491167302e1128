/-
  Layer 3 (delta): two rows of samples, alone and together.
-/
import Derived.Test.YteaelcimlmckjaaDeltaLawsE
import Derived.Laws.OwnMore
namespace Go.Proofs.Yteaelcimlmckjaa
open Go.RowKit Go.Deep
attribute [local go_sem] str_size str_append str_toList str_get str_extract
set_option linter.unusedVariables false
set_option linter.unusedSimpArgs false

theorem add_more (a : Addr) (m n : Nat) : (a.add m).add n = a.add (m + n) := by
  unfold Addr.add
  by_cases hm : m = 0
  · subst hm; simp
  · by_cases hn : n = 0
    · subst hn; simp [hm]
    · simp [hm, hn, Nat.add_assoc]
theorem SAt.take {w : World} {A : Option Addr} {n : Nat} {l : List Smp} (h : SAt w A n l) (k : Nat) (hk : k ≤ n) : SAt w A k (l.take k) := by
  have hl := h.1
  refine ⟨by rw [List.length_take]; omega, fun i hi => ?_⟩
  rw [List.length_take] at hi
  have := h.2 i (by omega)
  simpa [List.getElem_take] using this
theorem SAt.dropped {w : World} {A : Option Addr} {n cap : Nat} {l : List Smp} (h : SAt w A n l) (k : Nat) (hk : k ≤ n) (hc : n ≤ cap) : SAt w (if cap = k then A else A.map (·.add (k * 2))) (n - k) (l.drop k) := by
  have hl := h.1
  refine ⟨by rw [List.length_drop, hl], fun i hi => ?_⟩
  rw [List.length_drop] at hi
  obtain ⟨h1, ad, rfl, h2, h3, h4⟩ := h.2 (k + i) (by omega)
  rw [if_neg (by omega)]
  have e : (ad.add (k * 2)).add (i * 2) = ad.add ((k + i) * 2) := by rw [add_more, ← Nat.add_mul]
  refine ⟨by simpa [List.getElem_drop] using h1, _, rfl, ?_⟩
  rw [e]
  simpa [List.getElem_drop] using And.intro h2 (And.intro h3 h4)
/-- A sample's cells, one by one. -/
theorem sAt_cells {w : World} {ad : Addr} {m : Nat} {L : List Smp} (h : SAt w (some ad) m L) : ∀ j u, (smpC L)[j]? = some u → w.cell? (ad.add j) = some u := by
  intro j u hu
  have hj : j < (smpC L).length := (List.getElem?_eq_some_iff.1 hu).1
  rw [smpC_length] at hj
  obtain ⟨_, ad', had, _, h3, h4⟩ := h.2 (j / 2) (by omega)
  obtain rfl : ad = ad' := by injection had
  have hc := smpC_get L (j / 2) (by omega)
  rcases Nat.mod_two_eq_zero_or_one j with e | e
  · have e2 : j = 2 * (j / 2) := by omega
    rw [← e2] at hc
    rw [hc.1] at hu
    rw [show j = j / 2 * 2 by omega, h3]
    exact hu
  · have e2 : j = 2 * (j / 2) + 1 := by omega
    rw [← e2] at hc
    rw [hc.2] at hu
    have e3 : ad.add j = ⟨(ad.add (j / 2 * 2)).block, (ad.add (j / 2 * 2)).off + 1, none⟩ := by
      rw [show ad.add j = (ad.add (j / 2 * 2)).add 1 by rw [add_more]; congr 1; omega]
      rfl
    rw [e3, h4]
    exact hu
theorem smpC_one (L : List Smp) : ∀ u ∈ smpC L, u.oneCell' = true := by
  induction L with
  | nil => intro u hu; simp [smpC] at hu
  | cons s r ih =>
    intro u hu
    simp only [smpC, List.mem_cons] at hu
    rcases hu with rfl | rfl | hu
    · rfl
    · rfl
    · exact ih u hu
/-- Samples behind samples: the source may be nil. -/
theorem app_smps {w : World} {ops : Array Oper} {rest : List Oper} {o : Oper} {a : Act} {Q : Exit → Act → World → Prop} (hgd : o.guard = none) (s x : Operand)
    (ho : o.op = .call { callee := .builtin .append, args := #[s, x], argTypes := #[22, 22] })
    (base : Nat) (A0 : Option Addr) (n cap0 : Nat) (l : List Smp) (hs : a.eval s = .slice A0 n cap0) (hown : w.ownsRow base 34 2 (.slice A0 n cap0) n (smpC l))
    (A : Option Addr) (m c : Nat) (L : List Smp) (hx : a.eval x = .slice A m c) (hA : SAt w A m L) (n' : Nat) (l' : List Smp) (hn : n + m = n') (hl : l ++ L = l') (h63 : n' ≤ 10000) (hbase : base ≤ w.heap.size)
    (h : ∀ A' cap' w', w'.ownsRow base 34 2 (.slice A' n' cap') n' (smpC l') → w.grownBy w' (Value.slice A0 n cap0).ownBlock → wpList Try.prog ops Q rest (a.put o.dst (.slice A' n' cap')) w') :
    wpList Try.prog ops Q (o :: rest) a w := by
  obtain ⟨i0, hi0, hz0, hz1, hz2⟩ := info_parts smp_info
  subst hn hl
  rw [smpC_append] at h
  rcases A with _ | ad
  · have hm0 : m = 0 := by
      rcases Nat.eq_zero_or_pos m with h0 | h0
      · exact h0
      · obtain ⟨_, ad, e, _⟩ := hA.2 0 (by rw [← hA.1]; exact h0)
        cases e
    subst hm0
    have hL : L = [] := List.eq_nil_of_length_eq_zero hA.1.symm
    subst hL
    have hrun : (Builtin.append_ #[22, 22] o.type #[.slice A0 n cap0, .slice none 0 c]).run Try.prog w = .ok (.slice A0 n cap0) w := by
      rcases hown.2 with ⟨e, rfl⟩ | ⟨g, cap, cur, e, _, _, hnc, _⟩
      · injection e with e1 e2 e3
        subst e1 e3
        simp [Builtin.append_, run_underlying Try.underlying22, sizeOf, typeInfo, hi0, Builtin.lenOf, Builtin.firstCells]
      · injection e with e1 e2 e3
        subst e1 e3
        simp [Builtin.append_, run_underlying Try.underlying22, sizeOf, typeInfo, hi0, Builtin.lenOf, Builtin.firstCells, hnc, storeCells]
    refine wpList_plain hgd fun K hK => ?_
    unfold Oper.wp execOp
    simp only [ho, resolve, invoke, builtin, Sem.run_bind, Sem.run_pure, Result.andThen_ok, List.map_toArray, List.map_cons, List.map_nil, hs, hx, hrun]
    exact hK _ _ (h A0 cap0 w (by simpa [smpC] using hown) (World.grownBy.refl w _))
  · refine wpList_append_own_at _ hgd s x 22 ho base 34 i0 (.agg #[.int .i64 0, .int .i64 0]) 2 16 Try.underlying22 hi0 hz0 hz1 hz2 rfl (by decide) (.slice A0 n cap0) n _ hs hown ad m c (smpC L) hx (by rw [smpC_length, ← hA.1, Nat.mul_comm]) (sAt_cells hA) (smpC_one L) (by unfold maxLen; omega) (by omega) hbase ?_
    intro v' w' h1 h2 _ _
    obtain ⟨A', cap', rfl⟩ := row_slice h1
    exact h A' cap' w' h1 h2
theorem row_le {W : World} {B n cap : Nat} {e : TypeId} {size : Nat} {A : Option Addr} {xs : List Value} (h : W.ownsRow B e size (.slice A n cap) n xs) : n ≤ cap := by
  rcases h.2 with ⟨e, h0⟩ | ⟨g, c, cur, e, hB, hg, hle, hm, hsz, htk⟩
  · omega
  · injection e with e1 e2 e3
    omega
theorem rises_less (l : List Smp) : ∀ p q : Int, q ≤ p → rises p l → rises q l := by
  cases l with
  | nil => intro p q _ _; exact True.intro
  | cons s r => intro p q hq h; exact ⟨Int.lt_of_le_of_lt hq h.1, h.2.1, h.2.2⟩
theorem rises_take (l : List Smp) : ∀ (k : Nat) (p : Int), rises p l → rises p (l.take k) := by
  induction l with
  | nil => intro k p h; simpa using h
  | cons s r ih =>
    intro k p h
    cases k with
    | zero => exact True.intro
    | succ k => exact ⟨h.1, h.2.1, ih k s.1 h.2.2⟩
theorem rises_behind (l : List Smp) : ∀ (k : Nat) (p : Int), rises p l → rises p (l.drop k) := by
  induction l with
  | nil => intro k p h; simpa using h
  | cons s r ih =>
    intro k p h
    cases k with
    | zero => exact h
    | succ k => exact ih k p (rises_less r s.1 p (by have := h.1; omega) h.2.2)
/-- Samples that an encoding has. -/
theorem all_of {l : List Smp} (hl : l.length ≤ 60) (hr : rises (-1) l) (hv : vals64 l) : dE l = 0 ∧ decD (dEnc l) = some l ∧ (dEnc l).length ≤ 10000 := by
  have he : dE l = 0 := by unfold dE; rw [if_neg (by omega), if_pos hr]
  have := (dEnc_most _ he hv).1
  exact ⟨he, decD_back _ he hv, by omega⟩
theorem enc_one {A : Option Addr} {cap n : Nat} {l : List Smp} {W : World} {s : List UInt8} (h : SAt W A n l) (hn : n ≤ 60) (g : dE l = 0) (hs : dEnc l = s) :
    Calls Try.prog 9 #[.slice A n cap] W fun e w' => e = .returned (.tuple #[.string (str s), .int .i64 0]) ∧ Below W.heap.size W w' := by
  have := encode_c A n cap l W (by unfold maxLen; omega) h
  rw [g, hs] at this
  exact this
theorem refEnc_one {A : Option Addr} {cap n : Nat} {l : List Smp} {W : World} {s : List UInt8} (h : SAt W A n l) (hn : n ≤ 60) (g : dE l = 0) (hs : dEnc l = s) :
    Calls Try.prog 10 #[.slice A n cap] W fun e w' => e = .returned (.tuple #[.string (str s), .int .i64 0]) ∧ Below W.heap.size W w' := by
  have := refDEnc_c A n cap l W (by unfold maxLen; omega) h
  rw [g, hs] at this
  exact this
theorem dec_one (s : List UInt8) (W : World) {l : List Smp} (h : decD s = some l) (hs : s.length ≤ 10000) :
    Calls Try.prog 11 #[.string (str s)] W fun e w' => (∃ A cap, e = .returned (.tuple #[.slice A l.length cap, .int .i64 0]) ∧ SAt w' A l.length l) ∧ Below W.heap.size W w' := by
  have := decode_c s W (by omega)
  rw [h] at this
  exact this.mono fun e w' ⟨⟨A, cap, h1, h2, _⟩, h3⟩ => ⟨⟨A, cap, h1, h2⟩, h3⟩
set_option maxRecDepth 100000 in
set_option maxHeartbeats 2000000 in
theorem law_DeltaParts (a0 : Option Addr) (len0 cap0 : Nat) (z0 : List Int) (a1 : Option Addr) (len1 cap1 : Nat) (z1 : List Int) (a2 : Int) (w : World)
    (w0 : (a0 = none ∧ len0 = 0 ∧ cap0 = 0 ∧ z0 = []) ∨ ∃ x, a0 = some x ∧ len0 ≤ cap0 ∧ cap0 ≤ maxLen ∧ z0.length = cap0 ∧ (∀ i, i < z0.length → w.cell? (x.add i) = some (.int .u8 (z0.getD i 0))) ∧ ∀ n ∈ z0, (Lit.int .u8 n).wf = true)
    (w1 : (a1 = none ∧ len1 = 0 ∧ cap1 = 0 ∧ z1 = []) ∨ ∃ x, a1 = some x ∧ len1 ≤ cap1 ∧ cap1 ≤ maxLen ∧ z1.length = cap1 ∧ (∀ i, i < z1.length → w.cell? (x.add i) = some (.int .i64 (z1.getD i 0))) ∧ ∀ n ∈ z1, (Lit.int .i64 n).wf = true)
    (w2 : (Lit.int .u8 a2).wf = true) :
    Calls Try.prog 8 #[.slice a0 len0 cap0, .slice a1 len1 cap1, .int .u8 a2] w fun e w' => e = .returned (.bool true) ∧ Below w.heap.size w w' := by
  obtain ⟨i0, hi0, hz0, hz1, hz2⟩ := info_parts smp_info
  have hm0 : len0 ≤ 9223372036854775807 := by
    rcases w0 with ⟨_, h, _, _⟩ | ⟨_, _, h1, h2, _⟩
    · omega
    · unfold maxLen at h2; omega
  have hm1 : len1 ≤ 9223372036854775807 := by
    rcases w1 with ⟨_, h, _, _⟩ | ⟨_, _, h1, h2, _⟩
    · omega
    · unfold maxLen at h2; omega
  have hc0 : ∀ i, i < len0 → ∃ x, a0 = some x ∧ (x.add i).block < w.heap.size ∧ w.cell? (x.add i) = some (.int .u8 (z0.getD i 0)) ∧ 0 ≤ z0.getD i 0 ∧ z0.getD i 0 ≤ 255 := by
    intro i hi
    rcases w0 with ⟨_, h, _, _⟩ | ⟨x, rfl, h1, h2, h3, h4, h5⟩
    · omega
    · have hil : i < z0.length := by omega
      have hc := h4 i hil
      have hg : z0.getD i 0 = z0[i] := by simp [List.getD_eq_getElem?_getD, hil]
      have hb := bounds_u8 (h5 z0[i] (List.getElem_mem hil))
      exact ⟨x, rfl, World.block_lt_of_cell? w _ hc, hc, by rw [hg]; exact hb.1, by rw [hg]; exact hb.2⟩
  have hc1 : ∀ i, i < len1 → ∃ x, a1 = some x ∧ (x.add i).block < w.heap.size ∧ w.cell? (x.add i) = some (.int .i64 (z1.getD i 0)) ∧ -9223372036854775808 ≤ z1.getD i 0 ∧ z1.getD i 0 ≤ 9223372036854775807 := by
    intro i hi
    rcases w1 with ⟨_, h, _, _⟩ | ⟨x, rfl, h1, h2, h3, h4, h5⟩
    · omega
    · have hil : i < z1.length := by omega
      have hc := h4 i hil
      have hg : z1.getD i 0 = z1[i] := by simp [List.getD_eq_getElem?_getD, hil]
      have hb := bounds_i64 (h5 z1[i] (List.getElem_mem hil))
      exact ⟨x, rfl, World.block_lt_of_cell? w _ hc, hc, by rw [hg]; exact hb.1, by rw [hg]; exact hb.2⟩
  have hb2 := bounds_u8 w2
  obtain ⟨x, rfl⟩ : ∃ x : Nat, a2 = x := ⟨a2.toNat, by omega⟩
  have HC0 := Lib.hid hc0
  have HC1 := Lib.hid hc1
  have hx255 : x ≤ 255 := by omega
  clear hc0 hc1 w0 w1 w2 hb2
  go_enter Try.func8, Try.ntmps8
  go_wp2_with fail
  go_loopw [7, 8, 9] (fun lv tv c wr => ∃ (k : Nat) (pre : List Smp) (T : Int) (A : Option Addr) (cap : Nat), k ≤ len0 ∧ k ≤ 60 ∧ c = .int .i64 k ∧ tv = .int .i64 T ∧ lv = .slice A k cap ∧ wr.ownsRow w.heap.size 34 2 (.slice A k cap) k (smpC pre) ∧ (0 ≤ T ∧ T ≤ 256 * (k : Int)) ∧ Hid (pre.length = k ∧ rises (-1) pre ∧ vals64 pre ∧ ∀ s, s ∈ pre → 0 ≤ s.1 ∧ s.1 ≤ T) ∧ Below w.heap.size w wr) (fun _ _ c _ => len0 - (intOf c).toNat)
  case atStart =>
    exact ⟨0, [], 0, _, _, Nat.zero_le _, Nat.zero_le _, rfl, rfl, rfl, World.ownsRow_made w #[] 0 (Nat.le_refl _) (by unfold maxLen; omega) rfl, by omega, ⟨rfl, True.intro, fun s hs => by simp at hs, fun s hs => by simp at hs⟩, (Below.refl _ w).alloc (Nat.le_refl _) _⟩
  case round =>
    obtain ⟨k, pre, T, A, cap, hk, hk60, rfl, rfl, rfl, hrow, hT, hpre, hb⟩ := hrel
    have hbs := hb.size
    by_cases hlt : k < len0
    · by_cases h60 : k < 60
      · have e1 : decide ((k : Int) < 60) = true := by simp; omega
        obtain ⟨ad, rfl, hx1, hx2, hx3, hx4⟩ := HC0.out k hlt
        have hx2 := (hb.cell (p := ad.add k) hx1).trans hx2
        obtain ⟨b, hb_⟩ : ∃ b, z0.getD k 0 = b := ⟨_, rfl⟩
        rw [hb_] at hx2 hx3 hx4
        have wb : IntKind.i64.wrap b = b := IntWalk.i64_in _ (by omega)
        have wb1 : IntKind.i64.wrap (1 + b) = 1 + b := IntWalk.i64_in _ (by omega)
        obtain ⟨T2, hT2⟩ : ∃ T2, T + (1 + b) = T2 := ⟨_, rfl⟩
        have wT : IntKind.i64.wrap (T + (1 + b)) = T2 := by rw [hT2]; exact IntWalk.i64_in _ (by omega)
        have hTr : T < T2 ∧ T2 ≤ 256 * ((k + 1 : Nat) : Int) := by omega
        have hun : k + 1 ≤ maxLen := by unfold maxLen; omega
        have HT2 := Lib.hid (And.intro hT (And.intro hTr h60))
        clear hb_ hT2 hTr hT h60
        by_cases hv1 : k < len1
        · obtain ⟨ad1, rfl, hy1, hy2, hy3, hy4⟩ := HC1.out k hv1
          have hy2 := (hb.cell (p := ad1.add k) hy1).trans hy2
          obtain ⟨V, hV⟩ : ∃ b, z1.getD k 0 = b := ⟨_, rfl⟩
          rw [hV] at hy2 hy3 hy4
          clear hV
          have HR := Lib.hid hrow
          clear hrow
          go_wp2_with (at_builtin; refine wpList_append_own_at _ rfl (.tmp 55) (.tmp 59) 22 rfl w.heap.size 34 i0 (.agg #[.int .i64 0, .int .i64 0]) 2 16 Try.underlying22 hi0 hz0 hz1 hz2 rfl (by decide) (.slice A k cap) k _ rfl (HR.out.alloc _) ⟨wr.heap.size, 0, none⟩ 1 1 [.int .i64 T2, .int .i64 V] rfl rfl (cell_two_new _ _ _ _) ?s0 hun ?s2 ?s3 ?c1)
          case s0 => intro u hu; simp at hu; rcases hu with rfl | rfl <;> rfl
          case s2 => omega
          case s3 => simp; omega
          case c1 =>
            intro v' w4 hown hg hnn hat
            obtain ⟨A3, cap3, rfl⟩ := row_slice hown
            have hb4 : Below w.heap.size w w4 := (hb.alloc hbs _).grown hg (by simp; omega) (fun k hk => (HR.out.lt k hk).1)
            have HO := Lib.hid hown
            clear hown hg hnn hat HR
            go_wp2_with fail
            go_roundw
            case rel =>
              have h60 := HT2.out.2.2
              refine ⟨k + 1, pre ++ [(T2, V)], T2, A3, cap3, by omega, by omega, by go_num, rfl, rfl, ?_, ?_, ?_, hb4⟩
              · have h := HO.out
                rw [smpC_append]; exact h
              · have := HT2.out; omega
              · have h1 := HT2.out.1
                have h2 := HT2.out.2.1
                refine ⟨by rw [List.length_append, hpre.out.1]; rfl, rises_snoc _ _ _ hpre.out.2.1 (fun h => ?_) (fun _ => by show -1 < T2; omega) (by show T2 < _; omega), fun s hs => ?_, fun s hs => ?_⟩
                · have h3 := (hpre.out.2.2.2 _ (List.getLast_mem h)).2
                  show _ < T2
                  omega
                · rcases List.mem_append.1 hs with hs | hs
                  · exact hpre.out.2.2.1 s hs
                  · simp at hs; subst hs; exact ⟨by show _ ≤ V; omega, by show V ≤ _; omega⟩
                · rcases List.mem_append.1 hs with hs | hs
                  · have h3 := hpre.out.2.2.2 s hs
                    omega
                  · simp at hs; subst hs; exact ⟨by show 0 ≤ T2; omega, Int.le_refl _⟩
            case measure => simp [intOf]; omega
        · have hvi : decide ((k : Int) < (len1 : Int)) = false := by simp; omega
          have hy3 : -9223372036854775808 ≤ (k : Int) := by omega
          have hy4 : (k : Int) ≤ 9223372036854775807 := by omega
          have HR := Lib.hid hrow
          clear hrow
          go_wp2_with (at_builtin; refine wpList_append_own_at _ rfl (.tmp 55) (.tmp 59) 22 rfl w.heap.size 34 i0 (.agg #[.int .i64 0, .int .i64 0]) 2 16 Try.underlying22 hi0 hz0 hz1 hz2 rfl (by decide) (.slice A k cap) k _ rfl (HR.out.alloc _) ⟨wr.heap.size, 0, none⟩ 1 1 [.int .i64 T2, .int .i64 (k : Int)] rfl rfl (cell_two_new _ _ _ _) ?s0 hun ?s2 ?s3 ?c1)
          case s0 => intro u hu; simp at hu; rcases hu with rfl | rfl <;> rfl
          case s2 => omega
          case s3 => simp; omega
          case c1 =>
            intro v' w4 hown hg hnn hat
            obtain ⟨A3, cap3, rfl⟩ := row_slice hown
            have hb4 : Below w.heap.size w w4 := (hb.alloc hbs _).grown hg (by simp; omega) (fun k hk => (HR.out.lt k hk).1)
            have HO := Lib.hid hown
            clear hown hg hnn hat HR
            go_wp2_with fail
            go_roundw
            case rel =>
              have h60 := HT2.out.2.2
              refine ⟨k + 1, pre ++ [(T2, (k : Int))], T2, A3, cap3, by omega, by omega, by go_num, rfl, rfl, ?_, ?_, ?_, hb4⟩
              · have h := HO.out
                rw [smpC_append]; exact h
              · have := HT2.out; omega
              · have h1 := HT2.out.1
                have h2 := HT2.out.2.1
                refine ⟨by rw [List.length_append, hpre.out.1]; rfl, rises_snoc _ _ _ hpre.out.2.1 (fun h => ?_) (fun _ => by show -1 < T2; omega) (by show T2 < _; omega), fun s hs => ?_, fun s hs => ?_⟩
                · have h3 := (hpre.out.2.2.2 _ (List.getLast_mem h)).2
                  show _ < T2
                  omega
                · rcases List.mem_append.1 hs with hs | hs
                  · exact hpre.out.2.2.1 s hs
                  · simp at hs; subst hs; exact ⟨by show _ ≤ (k : Int); omega, by show (k : Int) ≤ _; omega⟩
                · rcases List.mem_append.1 hs with hs | hs
                  · have h3 := hpre.out.2.2.2 s hs
                    omega
                  · simp at hs; subst hs; exact ⟨by show 0 ≤ T2; omega, Int.le_refl _⟩
            case measure => simp [intOf]; omega
      · have e1 : decide ((k : Int) < 60) = false := by simp; omega
        have hnc := row_le hrow
        have hkr : (k : Int) ≤ 60 := by omega
        obtain ⟨j, hj⟩ : ∃ j, x % (k + 1) = j := ⟨_, rfl⟩
        have hjk : j ≤ k := by have := Nat.mod_lt x (show 0 < k + 1 by omega); omega
        have hjc : j ≤ cap := by omega
        have hji : (j : Int) ≤ (k : Int) := by omega
        have hjj : (j : Int) ≤ (cap : Int) := by omega
        have wk : IntKind.i64.wrap ((k : Int) + 1) = (k : Int) + 1 := IntWalk.i64_in _ (by omega)
        have wj : (x : Int) % ((k : Int) + 1) = (j : Int) := by rw [← hj]; rfl
        have hS := sAt_row hrow hpre.out.1.symm (fun s hs => ⟨by have := hpre.out.2.2.2 s hs; omega, by have := hpre.out.2.2.2 s hs; omega, (hpre.out.2.2.1 s hs).1, (hpre.out.2.2.1 s hs).2⟩)
        have gL := all_of (l := pre) (by have := hpre.out.1; omega) hpre.out.2.1 hpre.out.2.2.1
        have gA := all_of (l := pre.take j) (by have := hpre.out.1; rw [List.length_take]; omega) (rises_take _ _ _ hpre.out.2.1) (fun s hs => hpre.out.2.2.1 s (List.mem_of_mem_take hs))
        have gB := all_of (l := pre.drop j) (by have := hpre.out.1; rw [List.length_drop]; omega) (rises_behind _ _ _ hpre.out.2.1) (fun s hs => hpre.out.2.2.1 s (List.mem_of_mem_drop hs))
        have hAB : pre.take j ++ pre.drop j = pre := List.take_append_drop _ _
        have hSA := hS.take j hjk
        have hSB := hS.dropped (cap := cap) j hjk hnc
        obtain ⟨X, hX⟩ : ∃ X, (if cap = j then A else Option.map (fun x => x.add (j * 2)) A) = X := ⟨_, rfl⟩
        rw [hX] at hSB
        have lA : (pre.take j).length = j := by have := hpre.out.1; rw [List.length_take]; omega
        have lB : (pre.drop j).length = k - j := by have := hpre.out.1; rw [List.length_drop]; omega
        obtain ⟨La, hLa⟩ : ∃ l, pre.take j = l := ⟨_, rfl⟩
        obtain ⟨Lb, hLb⟩ : ∃ l, pre.drop j = l := ⟨_, rfl⟩
        rw [hLa] at gA hAB hSA lA
        rw [hLb] at gB hAB hSB lB
        obtain ⟨sa, hsa⟩ : ∃ s, dEnc La = s := ⟨_, rfl⟩
        obtain ⟨sb, hsb⟩ : ∃ s, dEnc Lb = s := ⟨_, rfl⟩
        obtain ⟨sc, hsc⟩ : ∃ s, dEnc pre = s := ⟨_, rfl⟩
        rw [hsa] at gA
        rw [hsb] at gB
        rw [hsc] at gL
        have CA := Lib.hid (fun A' c' W (h : SAt W A' j La) => enc_one (cap := c') h (by omega) gA.1 hsa)
        have CB := Lib.hid (fun A' c' W (h : SAt W A' (k - j) Lb) => enc_one (cap := c') h (by omega) gB.1 hsb)
        have CL := Lib.hid (fun W (h : SAt W A k pre) => enc_one (cap := cap) h (by omega) gL.1 hsc)
        have CR := Lib.hid (fun W (h : SAt W A k pre) => refEnc_one (cap := cap) h (by omega) gL.1 hsc)
        have DA := Lib.hid (fun W => dec_one sa W gA.2.1 gA.2.2)
        have DB := Lib.hid (fun W => dec_one sb W gB.2.1 gB.2.2)
        have DL := Lib.hid (fun W => dec_one sc W gL.2.1 gL.2.2)
        have HAB := Lib.hid (And.intro hAB (And.intro lA (And.intro lB hpre.out.1)))
        have HS := Lib.hid (And.intro hS (And.intro hSA hSB))
        clear hrow gL gA gB hAB hS hSA hSB lA lB hLa hLb hsa hsb hsc hpre hT hj
        go_wp2_with fail
        refine (CA.out _ _ _ HS.out.2.1).mono ?_
        rintro e w1 ⟨rfl, hb1⟩
        go_wp2_with fail
        refine (CB.out _ _ _ (HS.out.2.2.below hb1)).mono ?_
        clear hX
        rintro e w2 ⟨rfl, hb2⟩
        have hb12 := below2 hb1 hb2 hb1.size
        go_wp2_with fail
        refine (CL.out _ (HS.out.1.below hb12)).mono ?_
        rintro e w3 ⟨rfl, hb3⟩
        have hb13 := below2 hb12 hb3 hb12.size
        go_wp2_with fail
        refine (DA.out _).mono ?_
        rintro e w4 ⟨⟨A4, cap4, rfl, hS4⟩, hb4⟩
        have hb14 := below2 hb13 hb4 hb13.size
        rw [HAB.out.2.1] at hS4 ⊢
        have HS4 := Lib.hid hS4
        clear hS4
        go_wp2_with fail
        refine (DB.out _).mono ?_
        rintro e w5 ⟨⟨A5, cap5, rfl, hS5⟩, hb5⟩
        have hb15 := below2 hb14 hb5 hb14.size
        rw [HAB.out.2.2.1] at hS5 ⊢
        have HS5 := Lib.hid (And.intro hS5 (HS4.out.below hb5))
        clear hS5 HS4
        go_wp2_with fail
        refine (DL.out _).mono ?_
        rintro e w6 ⟨⟨A6, cap6, rfl, hS6⟩, hb6⟩
        have hb16 := below2 hb15 hb6 hb15.size
        rw [HAB.out.2.2.2] at hS6 ⊢
        have HS6 := Lib.hid (And.intro hS6 (And.intro (HS5.out.1.below hb6) (HS5.out.2.below hb6)))
        clear hS6 HS5
        have hB0 : Below w6.heap.size w6 (w6.alloc (.cells #[] 34)) := (Below.refl _ w6).alloc (Nat.le_refl _) _
        have hrb := World.ownsRow_made (e := 34) (size := 2) w6 #[] 0 (Nat.le_refl _) (by unfold maxLen; omega) rfl
        have HB := Lib.hid (And.intro hrb hB0)
        clear hrb hB0
        go_wp2_with (at_builtin; refine app_smps rfl (.tmp 124) (.tmp 125) rfl w6.heap.size _ 0 0 [] rfl HB.out.1 A4 j cap4 La rfl (HS6.out.2.2.below HB.out.2) j La (Nat.zero_add j) rfl (by omega) HB.out.2.size ?hA1)
        case hA1 =>
          intro A8 cap8 w8 hown hg
          have hb8 : Below w6.heap.size w6 w8 := HB.out.2.grown hg HB.out.2.size (fun k hk => (HB.out.1.lt k hk).1)
          have HR8 := Lib.hid (And.intro hown hb8)
          clear hown hg hb8
          go_wp2_with (at_builtin; refine app_smps rfl (.tmp 127) (.tmp 128) rfl w6.heap.size _ j cap8 La rfl HR8.out.1 A5 (k - j) cap5 Lb rfl (HS6.out.2.1.below HR8.out.2) k pre (by omega) HAB.out.1 (by omega) HR8.out.2.size ?hA2)
          case hA2 =>
            intro A9 cap9 w9 hown hg
            have hb9 : Below w6.heap.size w6 w9 := HR8.out.2.grown hg HR8.out.2.size (fun k hk => (HR8.out.1.lt k hk).1)
            have hb19 := below2 hb16 hb9 hb16.size
            have hin : ∀ s, s ∈ pre → -9223372036854775808 ≤ s.1 ∧ s.1 ≤ 9223372036854775807 ∧ -9223372036854775808 ≤ s.2 ∧ s.2 ≤ 9223372036854775807 := fun s hs => by
              obtain ⟨i, hi, rfl⟩ := List.getElem_of_mem hs
              exact (HS.out.1.2 i hi).1
            have hS9 := sAt_row hown HAB.out.2.2.2.symm hin
            have HS9 := Lib.hid (And.intro hS9 (And.intro (HS6.out.1.below hb9) (HS.out.1.below hb19)))
            clear hown hg hS9 hin HS6 HR8 HB
            go_wp2_with fail
            refine (CR.out _ HS9.out.2.2).mono ?_
            rintro e w10 ⟨rfl, hb10⟩
            have hb110 := below2 hb19 hb10 hb19.size
            have hl : pre.length ≤ 100000 := by have := HAB.out.2.2.2; omega
            have C5 := same_c A9 A k k cap9 cap pre pre w10 hl hl (HS9.out.1.below hb10) (HS9.out.2.2.below hb10)
            rw [decide_eq_true rfl] at C5
            have C5 := Lib.hid C5
            have HL := Lib.hid hl
            clear hl
            go_wp2_with fail
            refine C5.out.mono ?_
            rintro e w11 ⟨rfl, hb11⟩
            have hb111 := below2 hb110 hb11 hb110.size
            have C6 := same_c A6 A k k cap6 cap pre pre w11 HL.out HL.out ((HS9.out.2.1.below hb10).below hb11) ((HS9.out.2.2.below hb10).below hb11)
            rw [decide_eq_true rfl] at C6
            have C6 := Lib.hid C6
            go_wp2_with fail
            refine C6.out.mono ?_
            rintro e w12 ⟨rfl, hb12_⟩
            have hb112 := below2 hb111 hb12_ hb111.size
            go_wp2_with fail
            go_ret
            exact ⟨rfl, below2 hb hb112 hb.size⟩
    · have e1 : decide ((k : Int) < (len0 : Int)) = false := by simp; omega
      have hnc := row_le hrow
      have hkr : (k : Int) ≤ 60 := by omega
      obtain ⟨j, hj⟩ : ∃ j, x % (k + 1) = j := ⟨_, rfl⟩
      have hjk : j ≤ k := by have := Nat.mod_lt x (show 0 < k + 1 by omega); omega
      have hjc : j ≤ cap := by omega
      have hji : (j : Int) ≤ (k : Int) := by omega
      have hjj : (j : Int) ≤ (cap : Int) := by omega
      have wk : IntKind.i64.wrap ((k : Int) + 1) = (k : Int) + 1 := IntWalk.i64_in _ (by omega)
      have wj : (x : Int) % ((k : Int) + 1) = (j : Int) := by rw [← hj]; rfl
      have hS := sAt_row hrow hpre.out.1.symm (fun s hs => ⟨by have := hpre.out.2.2.2 s hs; omega, by have := hpre.out.2.2.2 s hs; omega, (hpre.out.2.2.1 s hs).1, (hpre.out.2.2.1 s hs).2⟩)
      have gL := all_of (l := pre) (by have := hpre.out.1; omega) hpre.out.2.1 hpre.out.2.2.1
      have gA := all_of (l := pre.take j) (by have := hpre.out.1; rw [List.length_take]; omega) (rises_take _ _ _ hpre.out.2.1) (fun s hs => hpre.out.2.2.1 s (List.mem_of_mem_take hs))
      have gB := all_of (l := pre.drop j) (by have := hpre.out.1; rw [List.length_drop]; omega) (rises_behind _ _ _ hpre.out.2.1) (fun s hs => hpre.out.2.2.1 s (List.mem_of_mem_drop hs))
      have hAB : pre.take j ++ pre.drop j = pre := List.take_append_drop _ _
      have hSA := hS.take j hjk
      have hSB := hS.dropped (cap := cap) j hjk hnc
      obtain ⟨X, hX⟩ : ∃ X, (if cap = j then A else Option.map (fun x => x.add (j * 2)) A) = X := ⟨_, rfl⟩
      rw [hX] at hSB
      have lA : (pre.take j).length = j := by have := hpre.out.1; rw [List.length_take]; omega
      have lB : (pre.drop j).length = k - j := by have := hpre.out.1; rw [List.length_drop]; omega
      obtain ⟨La, hLa⟩ : ∃ l, pre.take j = l := ⟨_, rfl⟩
      obtain ⟨Lb, hLb⟩ : ∃ l, pre.drop j = l := ⟨_, rfl⟩
      rw [hLa] at gA hAB hSA lA
      rw [hLb] at gB hAB hSB lB
      obtain ⟨sa, hsa⟩ : ∃ s, dEnc La = s := ⟨_, rfl⟩
      obtain ⟨sb, hsb⟩ : ∃ s, dEnc Lb = s := ⟨_, rfl⟩
      obtain ⟨sc, hsc⟩ : ∃ s, dEnc pre = s := ⟨_, rfl⟩
      rw [hsa] at gA
      rw [hsb] at gB
      rw [hsc] at gL
      have CA := Lib.hid (fun A' c' W (h : SAt W A' j La) => enc_one (cap := c') h (by omega) gA.1 hsa)
      have CB := Lib.hid (fun A' c' W (h : SAt W A' (k - j) Lb) => enc_one (cap := c') h (by omega) gB.1 hsb)
      have CL := Lib.hid (fun W (h : SAt W A k pre) => enc_one (cap := cap) h (by omega) gL.1 hsc)
      have CR := Lib.hid (fun W (h : SAt W A k pre) => refEnc_one (cap := cap) h (by omega) gL.1 hsc)
      have DA := Lib.hid (fun W => dec_one sa W gA.2.1 gA.2.2)
      have DB := Lib.hid (fun W => dec_one sb W gB.2.1 gB.2.2)
      have DL := Lib.hid (fun W => dec_one sc W gL.2.1 gL.2.2)
      have HAB := Lib.hid (And.intro hAB (And.intro lA (And.intro lB hpre.out.1)))
      have HS := Lib.hid (And.intro hS (And.intro hSA hSB))
      clear hrow gL gA gB hAB hS hSA hSB lA lB hLa hLb hsa hsb hsc hpre hT hj
      go_wp2_with fail
      refine (CA.out _ _ _ HS.out.2.1).mono ?_
      rintro e w1 ⟨rfl, hb1⟩
      go_wp2_with fail
      refine (CB.out _ _ _ (HS.out.2.2.below hb1)).mono ?_
      clear hX
      rintro e w2 ⟨rfl, hb2⟩
      have hb12 := below2 hb1 hb2 hb1.size
      go_wp2_with fail
      refine (CL.out _ (HS.out.1.below hb12)).mono ?_
      rintro e w3 ⟨rfl, hb3⟩
      have hb13 := below2 hb12 hb3 hb12.size
      go_wp2_with fail
      refine (DA.out _).mono ?_
      rintro e w4 ⟨⟨A4, cap4, rfl, hS4⟩, hb4⟩
      have hb14 := below2 hb13 hb4 hb13.size
      rw [HAB.out.2.1] at hS4 ⊢
      have HS4 := Lib.hid hS4
      clear hS4
      go_wp2_with fail
      refine (DB.out _).mono ?_
      rintro e w5 ⟨⟨A5, cap5, rfl, hS5⟩, hb5⟩
      have hb15 := below2 hb14 hb5 hb14.size
      rw [HAB.out.2.2.1] at hS5 ⊢
      have HS5 := Lib.hid (And.intro hS5 (HS4.out.below hb5))
      clear hS5 HS4
      go_wp2_with fail
      refine (DL.out _).mono ?_
      rintro e w6 ⟨⟨A6, cap6, rfl, hS6⟩, hb6⟩
      have hb16 := below2 hb15 hb6 hb15.size
      rw [HAB.out.2.2.2] at hS6 ⊢
      have HS6 := Lib.hid (And.intro hS6 (And.intro (HS5.out.1.below hb6) (HS5.out.2.below hb6)))
      clear hS6 HS5
      have hB0 : Below w6.heap.size w6 (w6.alloc (.cells #[] 34)) := (Below.refl _ w6).alloc (Nat.le_refl _) _
      have hrb := World.ownsRow_made (e := 34) (size := 2) w6 #[] 0 (Nat.le_refl _) (by unfold maxLen; omega) rfl
      have HB := Lib.hid (And.intro hrb hB0)
      clear hrb hB0
      go_wp2_with (at_builtin; refine app_smps rfl (.tmp 124) (.tmp 125) rfl w6.heap.size _ 0 0 [] rfl HB.out.1 A4 j cap4 La rfl (HS6.out.2.2.below HB.out.2) j La (Nat.zero_add j) rfl (by omega) HB.out.2.size ?hA1)
      case hA1 =>
        intro A8 cap8 w8 hown hg
        have hb8 : Below w6.heap.size w6 w8 := HB.out.2.grown hg HB.out.2.size (fun k hk => (HB.out.1.lt k hk).1)
        have HR8 := Lib.hid (And.intro hown hb8)
        clear hown hg hb8
        go_wp2_with (at_builtin; refine app_smps rfl (.tmp 127) (.tmp 128) rfl w6.heap.size _ j cap8 La rfl HR8.out.1 A5 (k - j) cap5 Lb rfl (HS6.out.2.1.below HR8.out.2) k pre (by omega) HAB.out.1 (by omega) HR8.out.2.size ?hA2)
        case hA2 =>
          intro A9 cap9 w9 hown hg
          have hb9 : Below w6.heap.size w6 w9 := HR8.out.2.grown hg HR8.out.2.size (fun k hk => (HR8.out.1.lt k hk).1)
          have hb19 := below2 hb16 hb9 hb16.size
          have hin : ∀ s, s ∈ pre → -9223372036854775808 ≤ s.1 ∧ s.1 ≤ 9223372036854775807 ∧ -9223372036854775808 ≤ s.2 ∧ s.2 ≤ 9223372036854775807 := fun s hs => by
            obtain ⟨i, hi, rfl⟩ := List.getElem_of_mem hs
            exact (HS.out.1.2 i hi).1
          have hS9 := sAt_row hown HAB.out.2.2.2.symm hin
          have HS9 := Lib.hid (And.intro hS9 (And.intro (HS6.out.1.below hb9) (HS.out.1.below hb19)))
          clear hown hg hS9 hin HS6 HR8 HB
          go_wp2_with fail
          refine (CR.out _ HS9.out.2.2).mono ?_
          rintro e w10 ⟨rfl, hb10⟩
          have hb110 := below2 hb19 hb10 hb19.size
          have hl : pre.length ≤ 100000 := by have := HAB.out.2.2.2; omega
          have C5 := same_c A9 A k k cap9 cap pre pre w10 hl hl (HS9.out.1.below hb10) (HS9.out.2.2.below hb10)
          rw [decide_eq_true rfl] at C5
          have C5 := Lib.hid C5
          have HL := Lib.hid hl
          clear hl
          go_wp2_with fail
          refine C5.out.mono ?_
          rintro e w11 ⟨rfl, hb11⟩
          have hb111 := below2 hb110 hb11 hb110.size
          have C6 := same_c A6 A k k cap6 cap pre pre w11 HL.out HL.out ((HS9.out.2.1.below hb10).below hb11) ((HS9.out.2.2.below hb10).below hb11)
          rw [decide_eq_true rfl] at C6
          have C6 := Lib.hid C6
          go_wp2_with fail
          refine C6.out.mono ?_
          rintro e w12 ⟨rfl, hb12_⟩
          have hb112 := below2 hb111 hb12_ hb111.size
          go_wp2_with fail
          go_ret
          exact ⟨rfl, below2 hb hb112 hb.size⟩
end Go.Proofs.Yteaelcimlmckjaa
