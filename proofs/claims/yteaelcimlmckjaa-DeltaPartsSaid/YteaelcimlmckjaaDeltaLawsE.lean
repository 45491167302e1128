/-
  Layer 3 (delta): values that are all more by one number.
-/
import Derived.Test.YteaelcimlmckjaaDeltaLawsC
namespace Go.Proofs.Yteaelcimlmckjaa
open Go.RowKit Go.Deep
attribute [local go_sem] str_size str_append str_toList str_get str_extract
set_option linter.unusedVariables false
set_option linter.unusedSimpArgs false

/-- A sample whose value is more by b. -/
def mvS (b : Int) (s : Smp) : Smp := (s.1, wrap64 (s.2 + b))
def lowT (l : List Smp) : Prop := rises (-1) l ∧ vals64 l ∧ ∀ s, s ∈ l → 0 ≤ s.1 ∧ s.1 < 1073741824
theorem rises_snoc (s : Smp) (l : List Smp) : ∀ p, rises p l → (∀ h : l ≠ [], (l.getLast h).1 < s.1) → (l = [] → p < s.1) → s.1 < 1099511627776 → rises p (l ++ [s]) := by
  induction l with
  | nil => intro p _ _ h2 h3; exact ⟨h2 rfl, h3, True.intro⟩
  | cons q r ih =>
    intro p h h1 _ h3
    refine ⟨h.1, h.2.1, ih q.1 h.2.2 (fun hr => ?_) (fun hr => ?_) h3⟩
    · have := h1 (by simp)
      rwa [List.getLast_cons hr] at this
    · subst hr
      exact h1 (by simp)
theorem lowT_snoc (l : List Smp) (t v : Int) (hl : lowT l) (hq : ∀ h : l ≠ [], (l.getLast h).1 < t) (h0 : 0 ≤ t) (h1 : t < 1073741824) (h2 : -9223372036854775808 ≤ v) (h3 : v ≤ 9223372036854775807) : lowT (l ++ [(t, v)]) := by
  refine ⟨rises_snoc _ _ _ hl.1 hq (fun _ => by show -1 < t; omega) (by show t < _; omega), fun s hs => ?_, fun s hs => ?_⟩
  · rcases List.mem_append.1 hs with hs | hs
    · exact hl.2.1 s hs
    · simp at hs; subst hs; exact ⟨h2, h3⟩
  · rcases List.mem_append.1 hs with hs | hs
    · exact hl.2.2 s hs
    · simp at hs; subst hs; exact ⟨h0, h1⟩
theorem mask30 (T : Int) : 0 ≤ bits .and .i64 T 1073741823 ∧ bits .and .i64 T 1073741823 < 1073741824 := by
  have h2 : (BitVec.ofInt 64 1073741823).toNat = 1073741823 := by decide
  have h3 := Nat.and_le_right (n := (BitVec.ofInt 64 T).toNat) (m := 1073741823)
  show 0 ≤ IntKind.i64.wrap ((BitVec.ofInt 64 T &&& BitVec.ofInt 64 1073741823).toNat : Int) ∧ IntKind.i64.wrap ((BitVec.ofInt 64 T &&& BitVec.ofInt 64 1073741823).toNat : Int) < 1073741824
  rw [BitVec.toNat_and, h2, IntKind.wrap_i64]
  omega
theorem sAt_last {w : World} {A : Option Addr} {n : Nat} {l : List Smp} (h : SAt w A n l) (hl : l ≠ []) :
    ∃ ad m, A = some ad ∧ n = m + 1 ∧ (ad.add (m * 2)).block < w.heap.size ∧ w.cell? (ad.add (m * 2)) = some (.int .i64 (l.getLast hl).1) := by
  have hp := List.length_pos_iff.2 hl
  obtain ⟨_, ad, rfl, h1, h2, _⟩ := h.2 (l.length - 1) (by omega)
  exact ⟨ad, l.length - 1, rfl, by rw [h.1]; omega, h1, by rw [h2, List.getLast_eq_getElem]⟩
theorem in_of_low {l : List Smp} (h : lowT l) : ∀ s, s ∈ l → -9223372036854775808 ≤ s.1 ∧ s.1 ≤ 9223372036854775807 ∧ -9223372036854775808 ≤ s.2 ∧ s.2 ≤ 9223372036854775807 := fun s hs => by
  have h1 := h.2.1 s hs
  have h2 := h.2.2 s hs
  exact ⟨by omega, by omega, h1.1, h1.2⟩
theorem in_of_moved {l : List Smp} (b : Int) (h : lowT l) : ∀ s, s ∈ l.map (mvS b) → -9223372036854775808 ≤ s.1 ∧ s.1 ≤ 9223372036854775807 ∧ -9223372036854775808 ≤ s.2 ∧ s.2 ≤ 9223372036854775807 := fun s hs => by
  obtain ⟨q, hq, rfl⟩ := List.mem_map.1 hs
  have h2 := h.2.2 q hq
  have h1 := wrap_range (q.2 + b)
  exact ⟨by show _ ≤ q.1; omega, by show q.1 ≤ _; omega, h1.1, h1.2⟩
set_option maxRecDepth 100000 in
set_option maxHeartbeats 1000000 in
theorem law_DeltaMoved (a0 : Option Addr) (len0 cap0 : Nat) (z0 : List Smp) (a1 : Int) (w : World) (hl0 : len0 ≤ maxLen) (w0 : SAt w a0 len0 z0) (w1 : (Lit.int .i64 a1).wf = true) :
    Calls Try.prog 7 #[.slice a0 len0 cap0, .int .i64 a1] w fun e w' => e = .returned (.bool true) ∧ Below w.heap.size w w' := by
  obtain ⟨i0, hi0, hz0, hz1, hz2⟩ := info_parts smp_info
  unfold maxLen at hl0
  by_cases h200 : 100 < (len0 : Int)
  · go_enter Try.func7, Try.ntmps7
    go_wp2
    go_ret
    exact ⟨rfl, Below.refl _ _⟩
  · have hd : decide (100 < (len0 : Int)) = false := by simpa using h200
    have hl100 : len0 ≤ 100 := by omega
    have hle := w0.1
    subst hle
    clear h200 hl0 w1
    go_enter Try.func7, Try.ntmps7
    go_wp2_with fail
    go_loopw [5, 6, 7] (fun lv mv c wr => ∃ (k n : Nat) (pre : List Smp) (A1 A2 : Option Addr) (cap1 cap2 : Nat), k ≤ z0.length ∧ c = .int .i64 k ∧ Hid (pre.length = n ∧ n ≤ k) ∧ lv = .slice A1 n cap1 ∧ mv = .slice A2 n cap2 ∧ wr.ownsRow w.heap.size 34 2 (.slice A1 n cap1) n (smpC pre) ∧ wr.ownsRow w.heap.size 34 2 (.slice A2 n cap2) n (smpC (pre.map (mvS a1))) ∧ (∀ g, (Value.slice A1 n cap1).ownBlock = some g → (Value.slice A2 n cap2).ownBlock ≠ some g) ∧ Hid (lowT pre) ∧ Below w.heap.size w wr) (fun _ _ c _ => z0.length - (intOf c).toNat)
    case atStart =>
      refine ⟨0, 0, [], _, _, _, _, Nat.zero_le _, rfl, ⟨rfl, Nat.le_refl _⟩, rfl, rfl, ?_, ?_, ?_, ⟨True.intro, fun s hs => by simp at hs, fun s hs => by simp at hs⟩, ((Below.refl _ w).alloc (Nat.le_refl _) _).alloc (by simp) _⟩
      · exact (World.ownsRow_made w #[] 0 (Nat.le_refl _) (by unfold maxLen; omega) rfl).alloc _
      · have h := (World.ownsRow_made (e := 34) (size := 2) (w.alloc (.cells #[] 34)) #[] 0 (Nat.le_refl _) (by unfold maxLen; omega) rfl).mono (base' := w.heap.size) (by simp)
        simpa [smpC] using h
      · intro g hg
        simp [Value.ownBlock] at hg ⊢
        omega
    case round =>
      obtain ⟨k, n, pre, A1, A2, cap1, cap2, hk, rfl, hnk, rfl, rfl, hr1, hr2, hap, hlow, hb⟩ := hrel
      have hbs := hb.size
      by_cases hlt : k < z0.length
      · obtain ⟨⟨r1, r2, r3, r4⟩, ad, rfl, h2, h3, h4⟩ := w0.2 k hlt
        obtain ⟨T, hT⟩ : ∃ t, z0[k].1 = t := ⟨_, rfl⟩
        obtain ⟨V, hV⟩ : ∃ t, z0[k].2 = t := ⟨_, rfl⟩
        rw [hT] at r1 r2 h3
        rw [hV] at r3 r4 h4
        clear hT hV
        have HC := Lib.hid (fun (W : World) (hW : Below w.heap.size w W) => (And.intro ((hW.cell (p := ad.add (k * 2)) h2).trans h3) ((hW.cell (p := ⟨(ad.add (k * 2)).block, (ad.add (k * 2)).off + 1, none⟩) h2).trans h4)))
        have h3 := (HC.out _ hb).1
        have h4 := (HC.out _ hb).2
        obtain ⟨t, ht⟩ : ∃ t, bits .and .i64 T 1073741823 = t := ⟨_, rfl⟩
        have hm := mask30 T
        rw [ht] at hm
        have HT := Lib.hid hm
        have HV := Lib.hid (And.intro r3 r4)
        obtain ⟨M, hM⟩ : ∃ M, wrap64 (V + a1) = M := ⟨_, rfl⟩
        have wM : IntKind.i64.wrap (V + a1) = M := by rw [← hM, IntKind.wrap_i64]; unfold wrap64; omega
        have HM := Lib.hid hM
        have HP := Lib.hid (And.intro hnk.out.1 (And.intro (show n ≤ 100 by have := hnk.out.2; omega) hnk.out.2))
        clear hm r1 r2 r3 r4 hM hnk
        by_cases hp : pre = []
        · have b0 : ((n : Int) == 0) = true := by have := HP.out.1; rw [hp] at this; simp at this; subst this; rfl
          have HQ : Hid (∀ h : pre ≠ [], (pre.getLast h).1 < t) := fun h => absurd hp h
          clear hp
          have hu1 : n + 1 ≤ maxLen := by have := HP.out.2.1; unfold maxLen; omega
          have HR2 := Lib.hid hr2
          have HR1 := Lib.hid hr1
          have HAP := Lib.hid hap
          clear hr1 hr2 hap
          go_wp2_with (at_builtin; refine wpList_append_own_at _ rfl (.tmp 48) (.tmp 56) 22 rfl w.heap.size 34 i0 (.agg #[.int .i64 0, .int .i64 0]) 2 16 Try.underlying22 hi0 hz0 hz1 hz2 rfl (by decide) (.slice A1 n cap1) n _ rfl (HR1.out.alloc _) ⟨wr.heap.size, 0, none⟩ 1 1 [.int .i64 t, .int .i64 V] rfl rfl (cell_two_new _ _ _ _) ?s0 hu1 ?s2 ?s3 ?c1)
          case s0 => intro u hu; simp at hu; rcases hu with rfl | rfl <;> rfl
          case s2 => have := HP.out.2.1; omega
          case s3 => simp; omega
          case c1 =>
            intro v' w4 hown hg hnn hat
            obtain ⟨A3, cap3, rfl⟩ := row_slice hown
            have hb4 : Below w.heap.size w w4 := (hb.alloc hbs _).grown hg (by simp; omega) (fun k hk => (HR1.out.lt k hk).1)
            have hb4s := hb4.size
            have hK1 : Keeps ((Value.slice A1 n cap1).ownBlock).toList wr w4 := ((Keeps.refl _ wr).alloc (.cells #[.int .i64 t, .int .i64 V] 34)).grown hg (fun k hk => .inl (by simp [hk]))
            have hr2' := hK1.row HR2.out (fun k hk hm => HAP.out k (by simpa using hm) hk)
            have hap' : ∀ g, (Value.slice A3 (n + 1) cap3).ownBlock = some g → (Value.slice A2 n cap2).ownBlock ≠ some g := by
              intro g hg3 hg2
              rcases hat with e | e
              · rw [e] at hg3; exact HAP.out g hg3 hg2
              · rw [e] at hg3; injection hg3 with hg3
                have := (HR2.out.lt g hg2).2
                first | omega | (simp at hg3; omega)
            have h24 := (HC.out _ hb4)
            have H4 := Lib.hid (And.intro hown (And.intro hr2' hap'))
            clear hown hg hnn hat hK1 hr2' hap' h3 h4 HR1 HR2 HAP
            go_wp2_with (at_builtin; refine wpList_append_own_at _ rfl (.tmp 58) (.tmp 68) 22 rfl w.heap.size 34 i0 (.agg #[.int .i64 0, .int .i64 0]) 2 16 Try.underlying22 hi0 hz0 hz1 hz2 rfl (by decide) (.slice A2 n cap2) n _ rfl (H4.out.2.1.alloc _) ⟨w4.heap.size, 0, none⟩ 1 1 [.int .i64 t, .int .i64 M] rfl rfl (cell_two_new _ _ _ _) ?s0 hu1 ?s2 ?s3 ?c2)
            case s0 => intro u hu; simp at hu; rcases hu with rfl | rfl <;> rfl
            case s2 => have := HP.out.2.1; omega
            case s3 => simp; omega
            case c2 =>
              intro v' w5 hown hg hnn hat
              obtain ⟨A4, cap4, rfl⟩ := row_slice hown
              have hb5 : Below w.heap.size w w5 := (hb4.alloc hb4s _).grown hg (by simp; omega) (fun k hk => (H4.out.2.1.lt k hk).1)
              have hK2 : Keeps ((Value.slice A2 n cap2).ownBlock).toList w4 w5 := ((Keeps.refl _ w4).alloc (.cells #[.int .i64 t, .int .i64 M] 34)).grown hg (fun k hk => .inl (by simp [hk]))
              have hr1' := hK2.row H4.out.1 (fun k hk hm => H4.out.2.2 k hk (by simpa using hm))
              have hap' : ∀ g, (Value.slice A3 (n + 1) cap3).ownBlock = some g → (Value.slice A4 (n + 1) cap4).ownBlock ≠ some g := by
                intro g hg3 hg2
                rcases hat with e | e
                · rw [e] at hg2; exact H4.out.2.2 g hg3 hg2
                · rw [e] at hg2; injection hg2 with hg2
                  have := (H4.out.1.lt g hg3).2
                  first | omega | (simp at hg2; omega)
              have H5 := Lib.hid (And.intro hown (And.intro hr1' hap'))
              clear hown hg hnn hat hK2 hr1' hap' H4 h24
              go_wp2_with fail
              go_roundw
              case rel =>
                refine ⟨k + 1, n + 1, pre ++ [(t, V)], A3, A4, cap3, cap4, by omega, by go_num, ?_, rfl, rfl, ?_, ?_, H5.out.2.2, ?_, hb5⟩
                · have := HP.out.1; have := HP.out.2.2; exact ⟨by simp; omega, by omega⟩
                · have h := H5.out.2.1
                  rw [smpC_append]; exact h
                · have h := H5.out.1
                  rw [List.map_append, smpC_append, show smpC ([(t, V)].map (mvS a1)) = [.int .i64 t, .int .i64 M] by rw [← HM.out]; rfl]
                  exact h
                · exact lowT_snoc _ _ _ hlow.out HQ.out HT.out.1 HT.out.2 HV.out.1 HV.out.2
              case measure => simp [intOf]; omega
        · have hS := sAt_row hr1 HP.out.1.symm (in_of_low hlow.out)
          obtain ⟨ad1, m, rfl, hnm, hx1, hx2⟩ := sAt_last hS hp
          obtain ⟨q, hq⟩ : ∃ q, (pre.getLast hp).1 = q := ⟨_, rfl⟩
          rw [hq] at hx2
          have b0 : ((n : Int) == 0) = false := by simp; omega
          have b3 : IntKind.i64.wrap ((n : Int) - 1) = (m : Int) := by rw [hnm, show ((m + 1 : Nat) : Int) - 1 = m by omega]; exact IntWalk.i64_in _ (by have := HP.out.2.1; omega)
          have b4 : m < n := by omega
          have b5 : (m : Int) < (n : Int) := by omega
          have b6 : (0 : Int) ≤ (m : Int) := by omega
          have HQ0 := Lib.hid hq
          clear hS hnm hx1 hq
          by_cases hgt : q < t
          · have b1 : decide (q < t) = true := by simpa using hgt
            have HQ : Hid (∀ h : pre ≠ [], (pre.getLast h).1 < t) := fun h => by have := HQ0.out; omega
            clear hgt HQ0 hp
            have hu1 : n + 1 ≤ maxLen := by have := HP.out.2.1; unfold maxLen; omega
            have HR2 := Lib.hid hr2
            have HR1 := Lib.hid hr1
            have HAP := Lib.hid hap
            clear hr1 hr2 hap
            go_wp2_with (at_builtin; refine wpList_append_own_at _ rfl (.tmp 48) (.tmp 56) 22 rfl w.heap.size 34 i0 (.agg #[.int .i64 0, .int .i64 0]) 2 16 Try.underlying22 hi0 hz0 hz1 hz2 rfl (by decide) (.slice (some ad1) n cap1) n _ rfl (HR1.out.alloc _) ⟨wr.heap.size, 0, none⟩ 1 1 [.int .i64 t, .int .i64 V] rfl rfl (cell_two_new _ _ _ _) ?s0 hu1 ?s2 ?s3 ?c1)
            case s0 => intro u hu; simp at hu; rcases hu with rfl | rfl <;> rfl
            case s2 => have := HP.out.2.1; omega
            case s3 => simp; omega
            case c1 =>
              intro v' w4 hown hg hnn hat
              obtain ⟨A3, cap3, rfl⟩ := row_slice hown
              have hb4 : Below w.heap.size w w4 := (hb.alloc hbs _).grown hg (by simp; omega) (fun k hk => (HR1.out.lt k hk).1)
              have hb4s := hb4.size
              have hK1 : Keeps ((Value.slice (some ad1) n cap1).ownBlock).toList wr w4 := ((Keeps.refl _ wr).alloc (.cells #[.int .i64 t, .int .i64 V] 34)).grown hg (fun k hk => .inl (by simp [hk]))
              have hr2' := hK1.row HR2.out (fun k hk hm => HAP.out k (by simpa using hm) hk)
              have hap' : ∀ g, (Value.slice A3 (n + 1) cap3).ownBlock = some g → (Value.slice A2 n cap2).ownBlock ≠ some g := by
                intro g hg3 hg2
                rcases hat with e | e
                · rw [e] at hg3; exact HAP.out g hg3 hg2
                · rw [e] at hg3; injection hg3 with hg3
                  have := (HR2.out.lt g hg2).2
                  first | omega | (simp at hg3; omega)
              have h24 := (HC.out _ hb4)
              have H4 := Lib.hid (And.intro hown (And.intro hr2' hap'))
              clear hown hg hnn hat hK1 hr2' hap' h3 h4 HR1 HR2 HAP
              go_wp2_with (at_builtin; refine wpList_append_own_at _ rfl (.tmp 58) (.tmp 68) 22 rfl w.heap.size 34 i0 (.agg #[.int .i64 0, .int .i64 0]) 2 16 Try.underlying22 hi0 hz0 hz1 hz2 rfl (by decide) (.slice A2 n cap2) n _ rfl (H4.out.2.1.alloc _) ⟨w4.heap.size, 0, none⟩ 1 1 [.int .i64 t, .int .i64 M] rfl rfl (cell_two_new _ _ _ _) ?s0 hu1 ?s2 ?s3 ?c2)
              case s0 => intro u hu; simp at hu; rcases hu with rfl | rfl <;> rfl
              case s2 => have := HP.out.2.1; omega
              case s3 => simp; omega
              case c2 =>
                intro v' w5 hown hg hnn hat
                obtain ⟨A4, cap4, rfl⟩ := row_slice hown
                have hb5 : Below w.heap.size w w5 := (hb4.alloc hb4s _).grown hg (by simp; omega) (fun k hk => (H4.out.2.1.lt k hk).1)
                have hK2 : Keeps ((Value.slice A2 n cap2).ownBlock).toList w4 w5 := ((Keeps.refl _ w4).alloc (.cells #[.int .i64 t, .int .i64 M] 34)).grown hg (fun k hk => .inl (by simp [hk]))
                have hr1' := hK2.row H4.out.1 (fun k hk hm => H4.out.2.2 k hk (by simpa using hm))
                have hap' : ∀ g, (Value.slice A3 (n + 1) cap3).ownBlock = some g → (Value.slice A4 (n + 1) cap4).ownBlock ≠ some g := by
                  intro g hg3 hg2
                  rcases hat with e | e
                  · rw [e] at hg2; exact H4.out.2.2 g hg3 hg2
                  · rw [e] at hg2; injection hg2 with hg2
                    have := (H4.out.1.lt g hg3).2
                    first | omega | (simp at hg2; omega)
                have H5 := Lib.hid (And.intro hown (And.intro hr1' hap'))
                clear hown hg hnn hat hK2 hr1' hap' H4 h24
                go_wp2_with fail
                go_roundw
                case rel =>
                  refine ⟨k + 1, n + 1, pre ++ [(t, V)], A3, A4, cap3, cap4, by omega, by go_num, ?_, rfl, rfl, ?_, ?_, H5.out.2.2, ?_, hb5⟩
                  · have := HP.out.1; have := HP.out.2.2; exact ⟨by simp; omega, by omega⟩
                  · have h := H5.out.2.1
                    rw [smpC_append]; exact h
                  · have h := H5.out.1
                    rw [List.map_append, smpC_append, show smpC ([(t, V)].map (mvS a1)) = [.int .i64 t, .int .i64 M] by rw [← HM.out]; rfl]
                    exact h
                  · exact lowT_snoc _ _ _ hlow.out HQ.out HT.out.1 HT.out.2 HV.out.1 HV.out.2
                case measure => simp [intOf]; omega
          · have b1 : decide (q < t) = false := by simpa using hgt
            have HR := Lib.hid (And.intro hr1 (And.intro hr2 hap))
            clear hgt HQ0 hp hr1 hr2 hap
            go_wp2_with fail
            go_roundw
            case rel =>
              exact ⟨k + 1, n, pre, some ad1, A2, cap1, cap2, by omega, by go_num, ⟨HP.out.1, by have := HP.out.2.2; omega⟩, rfl, rfl, HR.out.1, HR.out.2.1, HR.out.2.2, hlow, hb⟩
            case measure => simp [intOf]; omega
      · obtain rfl : k = z0.length := by omega
        have hS1 := sAt_row hr1 hnk.out.1.symm (in_of_low hlow.out)
        have hS2 := sAt_row hr2 (by rw [List.length_map]; exact hnk.out.1.symm) (in_of_moved a1 hlow.out)
        have hn100 : n ≤ 100 := by have := hnk.out.2; omega
        have hE1 : dE pre = 0 := by unfold dE; rw [if_neg (by have := hnk.out.1; omega), if_pos hlow.out.1]
        have hE2 : dE (pre.map (mvS a1)) = 0 := (dE_moved a1 pre).trans hE1
        have hV2 : vals64 (pre.map (mvS a1)) := fun s hs => ⟨(in_of_moved a1 hlow.out s hs).2.2.1, (in_of_moved a1 hlow.out s hs).2.2.2⟩
        have hD := decD_back _ hE2 hV2
        have hM1 : (dEnc pre).length ≤ (dEnc (pre.map (mvS a1))).length + 9 ∧ (dEnc (pre.map (mvS a1))).length ≤ (dEnc pre).length + 9 := dEnc_moved a1 pre hE1 hlow.out.2.1
        have hM2 := (dEnc_most _ hE1 hlow.out.2.1).1
        have hM3 := (dEnc_most _ hE2 hV2).1
        have hl1 : pre.length ≤ 100 := by have := hnk.out.1; omega
        have hl2 : (pre.map (mvS a1)).length ≤ 100 := by rw [List.length_map]; omega
        have hn2 : (pre.map (mvS a1)).length = n := by rw [List.length_map]; exact hnk.out.1
        have C1 := encode_c A1 n cap1 _ wr (by unfold maxLen; omega) hS1
        obtain ⟨L, hL⟩ : ∃ L, pre.map (mvS a1) = L := ⟨_, rfl⟩
        rw [hL] at hS2 hE2 hD hM1 hM3 hl2 hn2
        have C2 := fun W (h : Below wr.heap.size wr W) => encode_c A2 n cap2 _ W (by unfold maxLen; omega) (hS2.below h)
        have C4 := fun W (h : Below wr.heap.size wr W) => refDEnc_c A2 n cap2 _ W (by unfold maxLen; omega) (hS2.below h)
        obtain ⟨s1, hs1⟩ : ∃ s, dEnc pre = s := ⟨_, rfl⟩
        obtain ⟨s2, hs2⟩ : ∃ s, dEnc L = s := ⟨_, rfl⟩
        rw [hs1] at hM1 hM2
        rw [hs2] at hM1 hM3 hD
        rw [hE1, hs1] at C1
        simp only [hE2, hs2] at C2 C4
        have C3 := fun W => decode_c s2 W (by omega)
        rw [hD] at C3
        have d1 : decide ((s1.length : Int) - (s2.length : Int) ≤ 9) = true := by simp; omega
        have d2 : decide ((s2.length : Int) - (s1.length : Int) ≤ 9) = true := by simp; omega
        have x1 : IntKind.i64.wrap ((s1.length : Int) - (s2.length : Int)) = (s1.length : Int) - (s2.length : Int) := IntWalk.i64_in _ (by omega)
        have x2 : IntKind.i64.wrap ((s2.length : Int) - (s1.length : Int)) = (s2.length : Int) - (s1.length : Int) := IntWalk.i64_in _ (by omega)
        have C1 := Lib.hid C1
        have C2 := Lib.hid C2
        have C3 := Lib.hid C3
        have C4 := Lib.hid C4
        have HA := Lib.hid (And.intro hS2 (And.intro hl2 hn2))
        clear hS1 hS2 hn100 hE1 hE2 hV2 hD hM1 hM2 hM3 hl1 hl2 hn2 hL hs1 hs2 hr1 hr2 hap hlow hnk w0 hk hlt
        go_wp2_with fail
        refine C1.out.mono ?_
        rintro e w1 ⟨rfl, hb1⟩
        go_wp2_with fail
        refine (C2.out _ hb1).mono ?_
        rintro e w2 ⟨rfl, hb2⟩
        have hb12 := below2 hb1 hb2 hb1.size
        go_wp2_with fail
        refine (C3.out _).mono ?_
        rintro e w3 ⟨⟨A3, cap3, rfl, hS3, hl5⟩, hb3⟩
        have hb13 := below2 hb12 hb3 hb12.size
        rw [HA.out.2.2] at hS3 ⊢
        have HS3 := Lib.hid hS3
        clear hS3 hl5
        go_wp2_with fail
        refine (C4.out _ hb13).mono ?_
        rintro e w4 ⟨rfl, hb4⟩
        have hb14 := below2 hb13 hb4 hb13.size
        have hS4 := HS3.out.below hb4
        have C5 := same_c A3 A2 n n cap3 cap2 L L w4 (by have := HA.out.2.1; omega) (by have := HA.out.2.1; omega) hS4 (HA.out.1.below hb14)
        rw [decide_eq_true rfl] at C5
        have C5 := Lib.hid C5
        clear C1 C2 C3 C4 hS4
        go_wp2_with fail
        refine C5.out.mono ?_
        rintro e w5 ⟨rfl, hb5⟩
        go_wp2_with fail
        go_ret
        exact ⟨rfl, below2 hb (below2 hb14 hb5 hb14.size) hb.size⟩
end Go.Proofs.Yteaelcimlmckjaa
