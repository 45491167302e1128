/-
  Layer 3 (delta): the program's Encode.
-/
import Derived.Test.YteaelcimlmckjaaDeltaIter
import Derived.Test.YteaelcimlmckjaaDeltaNums
import Derived.Test.YteaelcimlmckjaaRice
import Derived.StillTactics
namespace Go.Proofs.Yteaelcimlmckjaa
open Go.RowKit Go.Deep
attribute [local go_sem] Oper.semAt_some
attribute [local go_sem] str_size str_append str_toList str_get str_extract
set_option linter.unusedVariables false
set_option linter.unusedSimpArgs false

/-- The two slices of numbers, in their boxes. -/
def TwoU (n₀ bt bv : Nat) (pre : List (Nat × Nat)) (W : World) : Prop :=
  ∃ tv vv, Boxed W bt 45 tv ∧ Boxed W bv 45 vv ∧ W.ownsRow n₀ 43 1 tv pre.length (pre.map fun x => natV x.1) ∧ W.ownsRow n₀ 43 1 vv pre.length (pre.map fun x => natV x.2) ∧
    (∀ g, tv.ownBlock = some g → vv.ownBlock ≠ some g)
/-- The bits of some pairs. -/
def pb (a b : Nat) (pre : List (Nat × Nat)) : List Bool := pairB a b (pre.map Prod.fst) (pre.map Prod.snd)
theorem pb_snoc (a b : Nat) (pre : List (Nat × Nat)) (x : Nat × Nat) : pb a b (pre ++ [x]) = pb a b pre ++ code x.1 a ++ code x.2 b := by
  unfold pb
  induction pre with
  | nil => simp [pairB]
  | cons y pre ih => simp only [List.cons_append, List.map_cons, pairB]; rw [ih]; simp
theorem pb_len (a b : Nat) (pre : List (Nat × Nat)) (ha : a ≤ 40) (hb : b ≤ 40) : (pb a b pre).length ≤ 176 * pre.length := by
  unfold pb
  rw [pairB_length _ _ _ _ (by simp)]
  have h1 := costN_le (pre.map Prod.fst) a ha
  have h2 := costN_le (pre.map Prod.snd) b hb
  rw [List.length_map] at h1 h2
  omega
theorem pb_pairs (a b : Nat) (t0 v0 : Int) (r : List Smp) : pb a b (pairsF t0 v0 r) = pairB a b (tsF t0 0 r) (vsF v0 r) := by
  unfold pb pairsF
  rw [List.map_fst_zip (by rw [tsF_length, vsF_length]; exact Nat.le_refl _), List.map_snd_zip (by rw [tsF_length, vsF_length]; exact Nat.le_refl _)]
theorem isW_cells {B p : Nat} {l : List Bool} {F : List Nat} {w : World} (h : IsW B p l F w) : ∀ k, k ∈ F → B ≤ k ∧ ((k = p ∧ ∃ cs, w.heap[k]? = some (.cells cs 78 (0, 0))) ∨ ∃ cs, w.heap[k]? = some (.cells cs 5 (0, 0))) := by
  intro k hk
  obtain ⟨v, hp, hr, rfl⟩ := h.ex
  rcases mem_push.1 hk with rfl | e
  · exact ⟨h.low, .inl ⟨rfl, _, hp⟩⟩
  · exact ⟨(hr.lt k e).1, .inr (row_block hr e)⟩
theorem isW_keeps {B p : Nat} {l : List Bool} {F G : List Nat} {w w' : World} (h : IsW B p l F w) (hK : Keeps G w w') (hF : ∀ k, k ∈ F → k ∉ G) : IsW B p l F w' := by
  obtain ⟨v, hp, hr, rfl⟩ := h.ex
  exact ⟨⟨v, hK.block hp (hF p (by simp)), hK.row hr (fun k hk => hF k (mem_push.2 (.inr hk))), rfl⟩, h.low⟩
set_option maxRecDepth 100000 in
set_option maxHeartbeats 4000000 in
theorem shorten_c (A : Option Addr) (cap : Nat) (t0 v0 : Int) (r : List Smp) (w : World) (hA : SAt w A (r.length + 1) ((t0, v0) :: r)) (h0t : 0 ≤ t0) (hr1 : 1 ≤ r.length) (hr2 : r.length ≤ 5000) (hris : rises t0 r) :
    Calls Try.prog 28 #[.slice A (r.length + 1) cap] w fun e w' => e = .returned (.string (str (dTail t0 v0 r))) ∧ Below w.heap.size w w' := by
  obtain ⟨i0, hi0, hz0, hz1, hz2⟩ := info_parts u64_info
  refine (callsIn_wide (n := 4)).1 (callsIn_of_wp_marks Try.func28 rfl trivial ?_ rfl)
  simp only [Try.ntmps28, List.size_toArray, List.length_cons, List.length_nil, Nat.reduceAdd, Nat.reduceSub, Array.replicate_succ, Array.replicate_zero, List.push_toArray, List.append_toArray, List.nil_append, List.cons_append]
  refine wpIn_wide.2 ?_
  go_wp2_with fail
  refine (numbers_c _ _ _ _).mono ?_
  rintro e w' ⟨rfl, rfl⟩
  go_wp2_with fail
  have bT := (Boxed.new w 45 (.slice none 0 0)).alloc (.cells #[.slice none 0 0] 45) |>.alloc (.cells #[.slice A (r.length + 1) cap] 22)
  have bV := (Boxed.new (w.alloc (.cells #[.slice none 0 0] 45)) 45 (.slice none 0 0)).alloc (.cells #[.slice A (r.length + 1) cap] 22)
  have bL := Boxed.new ((w.alloc (.cells #[.slice none 0 0] 45)).alloc (.cells #[.slice none 0 0] 45)) 22 (.slice A (r.length + 1) cap)
  have hB0 := (((Below.refl w.heap.size w).alloc (Nat.le_refl _) (.cells #[.slice none 0 0] 45)).alloc (by simp) (.cells #[.slice none 0 0] 45)).alloc (by simp; omega) (.cells #[.slice A (r.length + 1) cap] 22)
  rw [World.size_alloc] at bV
  rw [World.size_alloc, World.size_alloc] at bL
  have hsz : (((w.alloc (.cells #[.slice none 0 0] 45)).alloc (.cells #[.slice none 0 0] 45)).alloc (.cells #[.slice A (r.length + 1) cap] 22)).heap.size = w.heap.size + 1 + 1 + 1 := by simp
  generalize (((w.alloc (.cells #[.slice none 0 0] 45)).alloc (.cells #[.slice none 0 0] 45)).alloc (.cells #[.slice A (r.length + 1) cap] 22)) = W0 at *
  have hseq := numbers1_tells (4 - 1) w.heap.size (w.heap.size + 1 + 1) (by omega) [w.heap.size, w.heap.size + 1] 43 A cap t0 v0 r w W0 rfl hB0 bL (by simp; omega) (by decide) hA h0t (by omega) hris
  have hpl := pairsF_length t0 v0 r
  refine wpIn_wide.1 (loop_tells (n := 4) rfl (by omega) (gf := 54) (lb := #[.pointer (some ⟨w.heap.size + 1 + 1, 0, none⟩)]) rfl trivial (enters_of Try.func54 (by kernel_rfl) rfl)
    hseq (Below.refl _ _) (fun _ => rfl) (fun _ h => by cases h) (fun h k => h.trans k) (fun W k o o' hk h hb => Spared.book (by omega) W k o o' hk h hb)
    (fun pre W => TwoU w.heap.size w.heap.size (w.heap.size + 1) pre W ∧ Below w.heap.size w W) ?bears ?start
    (fun x => { tmps := #[.slice A (r.length + 1) cap, undef, .string ⟨#[]⟩, .pointer (some ⟨w.heap.size, 0, none⟩), .pointer (some ⟨w.heap.size + 1, 0, none⟩), .int .u64 (x.1 : Int), .int .u64 (x.2 : Int), undef, undef, undef, undef, undef, .slice A (r.length + 1) cap, .func (.func 54) #[] #[.pointer (some ⟨w.heap.size + 1 + 1, 0, none⟩)], .int .u64 (x.1 : Int), .int .u64 (x.2 : Int), undef, undef, undef, undef, undef, undef, undef, undef, undef, undef, undef, undef, undef, undef, undef, undef, undef, undef, undef, undef, undef, undef, undef, undef, undef, undef, undef, undef, undef, undef, undef, undef, undef, undef, undef, undef], defers := [] }) ?assign ?body ?done)
  case bears =>
    rintro s X Y F ⟨⟨tv, vv, b1, b2, r1, r2, hap⟩, hb⟩ hK hF
    refine ⟨⟨tv, vv, box_keeps b1 hK (not_book b1 hF rfl), box_keeps b2 hK (not_book b2 hF rfl), hK.row r1 ?_, hK.row r2 ?_, hap⟩, hb.trans (hK.to (by have := hb.size; omega) (fun f hf => by have := (hF f hf).1; omega))⟩
    · intro k hk
      obtain ⟨cs, hc⟩ := row_block r1 hk
      exact not_book hc hF rfl
    · intro k hk
      obtain ⟨cs, hc⟩ := row_block r2 hk
      exact not_book hc hF rfl
  case start => exact ⟨⟨_, _, bT, bV, World.ownsRow_nil _ _ _ _, World.ownsRow_nil _ _ _ _, by intro g hg; simp [Value.ownBlock] at hg⟩, hB0⟩
  case assign =>
    intro l x W K hK
    dsimp only [encP]
    gi_wp2
    exact hK
  case body =>
    rintro l pre x rest W hx ⟨⟨tv, vv, b1, b2, r1, r2, hap⟩, hb⟩
    have hlen : pre.length < r.length := by
      have h := congrArg List.length hx
      simp at h; omega
    have hc1 := b1.cell
    have hc2 := b2.cell
    have hlm : pre.length + 1 ≤ maxLen := by unfold maxLen; omega
    have hn0 : w.heap.size ≤ W.heap.size := hb.size
    have R1 := Lib.hid r1
    gi_wp2_with (gi_at_builtin; refine listIn_app rfl (.tmp 16) (.tmp 18) 45 rfl w.heap.size 43 i0 (.int .u64 0) 1 8 Try.underlying45 hi0 hz0 hz1 hz2 rfl (by decide) tv pre.length _ rfl (R1.out.alloc _) ⟨W.heap.size, 0, none⟩ 1 1 [natV x.1] rfl rfl (cell_one_new _ _ _) (by intro u hu; simp at hu; subst hu; rfl) hlm (by omega) (by simp; omega) ?c1)
    case c1 =>
      intro A1 cap1 w1 hown1 hg1 hat1
      obtain ⟨p1, p2, p3, p4⟩ := push b1 (by decide) r1 hn0 (Nat.le_refl _) hown1 hg1
      have hc1' := p1.cell
      have hf1' := p1.frozen
      have b2' := box_keeps b2 p4 (fun hm => by
        rcases mem_push.1 hm with e | e
        · omega
        · obtain ⟨cs, hc⟩ := row_block r1 e
          exact ne_type b2 hc (by decide) rfl)
      have r2' := p4.row r2 (fun k hk hm => by
        rcases mem_push.1 hm with rfl | e
        · obtain ⟨cs, hc⟩ := row_block r2 hk
          exact ne_type b1 hc (by decide) rfl
        · exact hap k e hk)
      have hap' : ∀ g, (Value.slice A1 (pre.length + 1) cap1).ownBlock = some g → vv.ownBlock ≠ some g := by
        intro g hg hg2
        rcases hat1 with e | e
        · rw [e] at hg; exact hap g hg hg2
        · rw [e] at hg; injection hg with hg
          obtain ⟨cs, hc⟩ := row_block r2 hg2
          have := lt_of_block hc
          omega
      have hse : (w1.setCell ⟨w.heap.size, 0, none⟩ (.slice A1 (pre.length + 1) cap1)).heap.size = w1.heap.size := by simp [World.setCell]
      have hs4 : W.heap.size ≤ w1.heap.size := by rw [← hse]; exact p4.size
      have hcn := cell_one_new (w1.setCell ⟨w.heap.size, 0, none⟩ (.slice A1 (pre.length + 1) cap1)) (natV x.2) 43
      rw [hse] at hcn
      have HCN := Lib.hid hcn
      clear hcn hse
      have hc2' := b2'.cell
      have H1 := Lib.hid (And.intro p2 (And.intro p3 (And.intro p4 (And.intro b2' (And.intro r2' hap')))))
      clear p2 p3 p4 b2' r2' hap' hat1 hown1 hg1 hc1 hc2
      gi_wp2_with (gi_at_builtin; refine listIn_app rfl (.tmp 20) (.tmp 22) 45 rfl w.heap.size 43 i0 (.int .u64 0) 1 8 Try.underlying45 hi0 hz0 hz1 hz2 rfl (by decide) vv pre.length _ rfl (H1.out.2.2.2.2.1.alloc _) ⟨w1.heap.size, 0, none⟩ 1 1 [natV x.2] rfl rfl HCN.out ?s0 hlm ?s1 ?s2 ?c2)
      case s0 => intro u hu; simp at hu; subst hu; rfl
      case s1 => omega
      case s2 => simp; omega
      case c2 =>
        intro A2 cap2 w2 hown2 hg2 hat2
        have hsz1 : (w1.setCell ⟨w.heap.size, 0, none⟩ (.slice A1 (pre.length + 1) cap1)).heap.size = w1.heap.size := by simp [World.setCell]
        obtain ⟨q1, q2, q3, q4⟩ := push H1.out.2.2.2.1 (by decide) H1.out.2.2.2.2.1 (by rw [hsz1]; omega) (Nat.le_succ _) hown2 hg2
        have hc3 := q1.cell
        have hf3 := q1.frozen
        have H2 := Lib.hid (And.intro q2 (And.intro q3 (And.intro q4 hat2)))
        clear q2 q3 q4 hown2 hg2 hat2
        gi_wp2
        obtain ⟨p2, p3, p4, b2', r2', hap'⟩ := H1.out
        obtain ⟨q2, q3, q4, hat2⟩ := H2.out
        have hK : Keeps ((w.heap.size :: tv.ownBlock.toList) ++ ((w.heap.size + 1) :: vv.ownBlock.toList)) W ((w2.setCell ⟨w.heap.size + 1, 0, none⟩ (.slice A2 (pre.length + 1) cap2))) :=
          (p4.more (fun f hf => .inl (List.mem_append_left _ hf))).trans q4 (fun g hg => .inl (List.mem_append_right _ hg))
        have hcells : ∀ k, k ∈ ((w.heap.size :: tv.ownBlock.toList) ++ ((w.heap.size + 1) :: vv.ownBlock.toList)) → w.heap.size ≤ k ∧ ((k ∈ [w.heap.size, w.heap.size + 1] ∧ ∃ cs, W.heap[k]? = some (.cells cs 45 (0, 0))) ∨ ∃ cs, W.heap[k]? = some (.cells cs 43 (0, 0))) := by
          intro k hk
          rcases List.mem_append.1 hk with hk | hk
          · rcases mem_push.1 hk with rfl | e
            · exact ⟨Nat.le_refl _, .inl ⟨by simp, _, b1⟩⟩
            · exact ⟨(r1.lt k e).1, .inr (row_block r1 e)⟩
          · rcases mem_push.1 hk with rfl | e
            · exact ⟨Nat.le_succ _, .inl ⟨by simp, _, b2⟩⟩
            · exact ⟨(r2.lt k e).1, .inr (row_block r2 e)⟩
        refine ⟨Books.of_keeps hK (fun k hk _ => ?_), ⟨hK.to hn0 (fun f hf => (hcells f hf).1), Spares.of_keeps hK (fun k hk => ?_)⟩, ⟨.slice A1 (pre.length + 1) cap1, _, ?_, q2, ?_, ?_, ?_⟩, hb.trans (hK.to hn0 (fun f hf => (hcells f hf).1))⟩
        · rcases (hcells k hk).2 with ⟨_, _, h⟩ | ⟨_, h⟩ <;> exact book_cells h
        · rcases (hcells k hk).2 with ⟨h, _⟩ | ⟨cs, h⟩
          · exact .inl h
          · exact .inr (.inr ⟨cs, _, h⟩)
        · refine box_keeps p2 q4 (fun hm => ?_)
          rcases mem_push.1 hm with e | e
          · omega
          · obtain ⟨cs, hc⟩ := row_block r2' e
            exact ne_type p2 hc (by decide) rfl
        · have h := q4.row p3 (fun k hk hm => by
            rcases mem_push.1 hm with rfl | e
            · obtain ⟨cs, hc⟩ := row_block p3 hk
              exact ne_type b2' hc (by decide) rfl
            · exact hap' k hk e)
          simpa using h
        · simpa using q3
        · intro g hg hg2
          rcases hat2 with e | e
          · rw [e] at hg2; exact hap' g hg hg2
          · rw [e] at hg2; injection hg2 with hg2
            obtain ⟨cs, hc⟩ := row_block p3 hg
            have := lt_of_block hc
            rw [hsz1] at this
            omega
  case done =>
    rintro D W hD ⟨⟨tv, vv, b1, b2, r1, r2, hap⟩, hb⟩ hKD
    have e1 : (pairsF t0 v0 r).map (fun x => natV x.1) = (tsF t0 0 r).map natV := by
      unfold pairsF
      rw [show (fun x : Nat × Nat => natV x.1) = natV ∘ Prod.fst from rfl, ← List.map_map, List.map_fst_zip (by rw [tsF_length, vsF_length]; exact Nat.le_refl _)]
    have e2 : (pairsF t0 v0 r).map (fun x => natV x.2) = (vsF v0 r).map natV := by
      unfold pairsF
      rw [show (fun x : Nat × Nat => natV x.2) = natV ∘ Prod.snd from rfl, ← List.map_map, List.map_snd_zip (by rw [tsF_length, vsF_length]; exact Nat.le_refl _)]
    have l1 := tsF_length t0 0 r
    have l2 := vsF_length v0 r
    rw [hpl, e1] at r1
    rw [hpl, e2] at r2
    obtain ⟨k, hk⟩ : ∃ k, r.length = k + 1 := ⟨r.length - 1, by omega⟩
    have n1 : ¬ tv = .slice none 0 0 := by
      rw [hk] at r1
      obtain ⟨g, c, rfl⟩ := ownsRow_succ r1
      simp
    have n2 : ¬ vv = .slice none 0 0 := by
      rw [hk] at r2
      obtain ⟨g, c, rfl⟩ := ownsRow_succ r2
      simp
    have ht40 : t0 < 1099511627776 := by
      cases r with
      | nil => simp at hr1
      | cons s r => have := hris.1; have := hris.2.1; omega
    obtain ⟨g1, cap1, rfl, hg1, u1⟩ := (HasU.of r1 l1.symm rfl n1).at (tsF_lt r t0 0 h0t ht40 (by omega) (by omega) hris)
    obtain ⟨g2, cap2, rfl, hg2, u2⟩ := (HasU.of r2 l2.symm rfl n2).at (vsF_lt r v0)
    have hm1 : (tsF t0 0 r).length ≤ 100000 := by omega
    have hm2 : (vsF v0 r).length ≤ 100000 := by omega
    rw [l1] at u1 b1
    rw [l2] at u2 b2
    clear l1 l2 e1 e2 n1 n2 hk
    obtain ⟨a, ha⟩ : ∃ a, bestTo (tsF t0 0 r) 40 = a := ⟨_, rfl⟩
    obtain ⟨b, hbb⟩ : ∃ b, bestTo (vsF v0 r) 40 = b := ⟨_, rfl⟩
    have hc1 := b1.cell
    have hc2 := b2.cell
    have HS := Lib.hid (fun (w' : World) (h : Below W.heap.size W w') => (⟨h, (box_below b1 h (Nat.le_refl _)).cell, (box_below b2 h (Nat.le_refl _)).cell⟩ : Below W.heap.size W w' ∧ w'.cell? ⟨w.heap.size, 0, none⟩ = some (.slice (some ⟨g1, 0, none⟩) r.length cap1) ∧ w'.cell? ⟨w.heap.size + 1, 0, none⟩ = some (.slice (some ⟨g2, 0, none⟩) r.length cap2)))
    go_wp2_with fail
    refine wp_mono (Q := OnlyN fun a' w' => ∃ b7 b8, a' = { tmps := #[.slice A (r.length + 1) cap, undef, .string ⟨#[]⟩, .pointer (some ⟨w.heap.size, 0, none⟩), .pointer (some ⟨w.heap.size + 1, 0, none⟩), undef, undef, .pointer (some ⟨b7, 0, none⟩), .pointer (some ⟨b8, 0, none⟩), undef, undef, undef, .slice A (r.length + 1) cap, .func (.func 54) #[] #[.pointer (some ⟨w.heap.size + 1 + 1, 0, none⟩)], undef, undef, undef, undef, undef, undef, undef, undef, undef, undef, .slice (some ⟨g1, 0, none⟩) r.length cap1, .int .i64 (a : Int), .slice (some ⟨g2, 0, none⟩) r.length cap2, .int .i64 (b : Int), undef, undef, undef, undef, undef, undef, undef, undef, undef, undef, undef, undef, undef, undef, undef, undef, undef, undef, undef, undef, undef, undef, undef, undef], defers := [{ target := .collected D, args := #[] }] } ∧
      Boxed w' b7 3 (.int .i64 (a : Int)) ∧ Boxed w' b8 3 (.int .i64 (b : Int)) ∧ W.heap.size ≤ b7 ∧ W.heap.size ≤ b8 ∧ Below W.heap.size W w') ?reg ?rest
    case reg =>
      refine wp_region_held_drew (S := fun w' => Below W.heap.size W w' ∧ w'.cell? ⟨w.heap.size, 0, none⟩ = some (.slice (some ⟨g1, 0, none⟩) r.length cap1) ∧ w'.cell? ⟨w.heap.size + 1, 0, none⟩ = some (.slice (some ⟨g2, 0, none⟩) r.length cap2)) (by kernel_rfl) (HS.out _ (Below.refl _ W).drew) (fun hHeld => ?_)
      refine wpAnyH_gen (fun Wc hWc => ?_)
      rw [← hWc] at hHeld
      clear hWc
      refine held_w (i := 0) (d := some 24) (v := ?_) rfl (by kernel_rfl) (by kernel_rfl) (by kernel_rfl) (fun _ _ _ h => h) (by rfl) ?_ hHeld ?_
      rotate_left
      · intro w' hSw; obtain ⟨q0, q1, q2⟩ := hSw; simp only [List.getElem?_toArray, List.getElem?_cons_zero, List.getElem?_cons_succ]; go_simp; try with_reducible rfl
      try simp only [Act.put, List.setIfInBounds_toArray, List.set_cons_zero, List.set_cons_succ]
      refine held_w (i := 2) (d := some 26) (v := ?_) rfl (by kernel_rfl) (by kernel_rfl) (by kernel_rfl) (fun _ _ _ h => h) (by rfl) ?_ hHeld ?_
      rotate_left
      · intro w' hSw; obtain ⟨q0, q1, q2⟩ := hSw; simp only [List.getElem?_toArray, List.getElem?_cons_zero, List.getElem?_cons_succ]; go_simp; try with_reducible rfl
      try simp only [Act.put, List.setIfInBounds_toArray, List.set_cons_zero, List.set_cons_succ]
      refine held_many (rs := [1, 4, 5]) (by kernel_rfl) (by simp) ⟨?_, ?_, ?_, trivial⟩
      · refine ⟨by rfl, fun K hK => ?_⟩
        simp only [List.getElem?_toArray, List.getElem?_cons_zero, List.getElem?_cons_succ]
        go_simp
        refine (best_c _ _ _ _ _ hm1 (u1.below hHeld.1)).mono ?_
        rintro e w' ⟨rfl, hk⟩
        rw [ha]
        refine hK.out _ _ (HS.out _ (below2 hHeld.1 hk hHeld.1.size)) (fun hHeld => ?_)
        clear hK K
        try simp only [Act.put, List.setIfInBounds_toArray, List.set_cons_zero, List.set_cons_succ]
        refine held_many (rs := [3, 4, 5]) (by kernel_rfl) (by simp) ⟨?_, ?_, ?_, trivial⟩
        · refine ⟨by rfl, fun K hK => ?_⟩
          simp only [List.getElem?_toArray, List.getElem?_cons_zero, List.getElem?_cons_succ]
          go_simp
          refine (best_c _ _ _ _ _ hm2 (u2.below hHeld.1)).mono ?_
          rintro e w' ⟨rfl, hk⟩
          rw [hbb]
          refine hK.out _ _ (HS.out _ (below2 hHeld.1 hk hHeld.1.size)) (fun hHeld => ?_)
          clear hK K
          try simp only [Act.put, List.setIfInBounds_toArray, List.set_cons_zero, List.set_cons_succ]
          refine held_many (rs := [4, 5]) (by kernel_rfl) (by simp) ⟨?_, ?_, trivial⟩
          · refine ⟨by rfl, fun K hK => ?_⟩
            simp only [List.getElem?_toArray, List.getElem?_cons_zero, List.getElem?_cons_succ]
            go_simp
            have g7 := hHeld.1.size
            have x7 := box_made hHeld.1 3 (.int .i64 0)
            have c7 := x7.cell
            have f7 := x7.frozen
            refine hK.out _ _ (HS.out _ (hHeld.1.alloc hHeld.1.size _)) (fun hHeld => ?_)
            clear hK K
            refine wpAnyH_gen (fun Wc hWc => ?_)
            rw [← hWc] at hHeld x7 c7 f7
            clear hWc
            try simp only [Act.put, List.setIfInBounds_toArray, List.set_cons_zero, List.set_cons_succ]
            refine held_c (i := 5) (by kernel_rfl) (by rfl) (fun K hK => ?_)
            simp only [List.getElem?_toArray, List.getElem?_cons_zero, List.getElem?_cons_succ]
            go_simp
            have g8 := hHeld.1.size
            have hne := Nat.ne_of_gt x7.lt
            have x8 := box_made hHeld.1 3 (.int .i64 0)
            have c8 := x8.cell
            have f8 := x8.frozen
            have x7 := x7.alloc (.cells #[.int .i64 0] 3)
            have c7 := x7.cell
            have f7 := x7.frozen
            refine hK.out _ _ (HS.out _ (hHeld.1.alloc hHeld.1.size _)) (fun hHeld => ?_)
            clear hK K
            refine wpAnyH_gen (fun Wc hWc => ?_)
            rw [← hWc] at hHeld x8 c8 f8
            rw [← hWc] at x7 c7 f7
            clear hWc
            try simp only [Act.put, List.setIfInBounds_toArray, List.set_cons_zero, List.set_cons_succ]
            refine held_c (i := 6) (by kernel_rfl) (by rfl) (fun K hK => ?_)
            simp only [List.getElem?_toArray, List.getElem?_cons_zero, List.getElem?_cons_succ]
            go_simp
            have x7 := x7.set (.int .i64 (a : Int))
            have x8 := box_far x8 hne (.int .i64 (a : Int))
            have c8 := x8.cell
            have f8 := x8.frozen
            refine hK.out _ _ (HS.out _ (hHeld.1.setCell (p := ⟨_, 0, none⟩) g7 (.int .i64 (a : Int)))) (fun hHeld => ?_)
            clear hK K
            try simp only [Act.put, List.setIfInBounds_toArray, List.set_cons_zero, List.set_cons_succ]
            refine held_c (i := 7) (by kernel_rfl) (by rfl) (fun K hK => ?_)
            simp only [List.getElem?_toArray, List.getElem?_cons_zero, List.getElem?_cons_succ]
            go_simp
            have x8 := x8.set (.int .i64 (b : Int))
            have x7 := box_far x7 hne.symm (.int .i64 (b : Int))
            refine hK.out _ _ (HS.out _ (hHeld.1.setCell (p := ⟨_, 0, none⟩) g8 (.int .i64 (b : Int)))) (fun hHeld => ?_)
            clear hK K
            try simp only [Act.put, List.setIfInBounds_toArray, List.set_cons_zero, List.set_cons_succ]
            refine wpAnyH_done (by kernel_rfl) ?_ _
            exact ⟨_, _, rfl, x7, x8, g7, g8, hHeld.1⟩
          · refine ⟨by rfl, fun K hK => ?_⟩
            simp only [List.getElem?_toArray, List.getElem?_cons_zero, List.getElem?_cons_succ]
            go_simp
            have g8 := hHeld.1.size
            have x8 := box_made hHeld.1 3 (.int .i64 0)
            have c8 := x8.cell
            have f8 := x8.frozen
            refine hK.out _ _ (HS.out _ (hHeld.1.alloc hHeld.1.size _)) (fun hHeld => ?_)
            clear hK K
            refine wpAnyH_gen (fun Wc hWc => ?_)
            rw [← hWc] at hHeld x8 c8 f8
            clear hWc
            try simp only [Act.put, List.setIfInBounds_toArray, List.set_cons_zero, List.set_cons_succ]
            refine held_c (i := 4) (by kernel_rfl) (by rfl) (fun K hK => ?_)
            simp only [List.getElem?_toArray, List.getElem?_cons_zero, List.getElem?_cons_succ]
            go_simp
            have g7 := hHeld.1.size
            have hne := Nat.ne_of_lt x8.lt
            have x7 := box_made hHeld.1 3 (.int .i64 0)
            have c7 := x7.cell
            have f7 := x7.frozen
            have x8 := x8.alloc (.cells #[.int .i64 0] 3)
            have c8 := x8.cell
            have f8 := x8.frozen
            refine hK.out _ _ (HS.out _ (hHeld.1.alloc hHeld.1.size _)) (fun hHeld => ?_)
            clear hK K
            refine wpAnyH_gen (fun Wc hWc => ?_)
            rw [← hWc] at hHeld x7 c7 f7
            rw [← hWc] at x8 c8 f8
            clear hWc
            try simp only [Act.put, List.setIfInBounds_toArray, List.set_cons_zero, List.set_cons_succ]
            refine held_c (i := 6) (by kernel_rfl) (by rfl) (fun K hK => ?_)
            simp only [List.getElem?_toArray, List.getElem?_cons_zero, List.getElem?_cons_succ]
            go_simp
            have x7 := x7.set (.int .i64 (a : Int))
            have x8 := box_far x8 hne (.int .i64 (a : Int))
            have c8 := x8.cell
            have f8 := x8.frozen
            refine hK.out _ _ (HS.out _ (hHeld.1.setCell (p := ⟨_, 0, none⟩) g7 (.int .i64 (a : Int)))) (fun hHeld => ?_)
            clear hK K
            try simp only [Act.put, List.setIfInBounds_toArray, List.set_cons_zero, List.set_cons_succ]
            refine held_c (i := 7) (by kernel_rfl) (by rfl) (fun K hK => ?_)
            simp only [List.getElem?_toArray, List.getElem?_cons_zero, List.getElem?_cons_succ]
            go_simp
            have x8 := x8.set (.int .i64 (b : Int))
            have x7 := box_far x7 hne.symm (.int .i64 (b : Int))
            refine hK.out _ _ (HS.out _ (hHeld.1.setCell (p := ⟨_, 0, none⟩) g8 (.int .i64 (b : Int)))) (fun hHeld => ?_)
            clear hK K
            try simp only [Act.put, List.setIfInBounds_toArray, List.set_cons_zero, List.set_cons_succ]
            refine wpAnyH_done (by kernel_rfl) ?_ _
            exact ⟨_, _, rfl, x7, x8, g7, g8, hHeld.1⟩
        · refine ⟨by rfl, fun K hK => ?_⟩
          simp only [List.getElem?_toArray, List.getElem?_cons_zero, List.getElem?_cons_succ]
          go_simp
          have g7 := hHeld.1.size
          have x7 := box_made hHeld.1 3 (.int .i64 0)
          have c7 := x7.cell
          have f7 := x7.frozen
          refine hK.out _ _ (HS.out _ (hHeld.1.alloc hHeld.1.size _)) (fun hHeld => ?_)
          clear hK K
          refine wpAnyH_gen (fun Wc hWc => ?_)
          rw [← hWc] at hHeld x7 c7 f7
          clear hWc
          try simp only [Act.put, List.setIfInBounds_toArray, List.set_cons_zero, List.set_cons_succ]
          refine held_many (rs := [3, 5]) (by kernel_rfl) (by simp) ⟨?_, ?_, trivial⟩
          · refine ⟨by rfl, fun K hK => ?_⟩
            simp only [List.getElem?_toArray, List.getElem?_cons_zero, List.getElem?_cons_succ]
            go_simp
            refine (best_c _ _ _ _ _ hm2 (u2.below hHeld.1)).mono ?_
            rintro e w' ⟨rfl, hk⟩
            rw [hbb]
            have x7 := box_below x7 hk (Nat.le_refl _)
            have c7 := x7.cell
            have f7 := x7.frozen
            refine hK.out _ _ (HS.out _ (below2 hHeld.1 hk hHeld.1.size)) (fun hHeld => ?_)
            clear hK K
            try simp only [Act.put, List.setIfInBounds_toArray, List.set_cons_zero, List.set_cons_succ]
            refine held_c (i := 5) (by kernel_rfl) (by rfl) (fun K hK => ?_)
            simp only [List.getElem?_toArray, List.getElem?_cons_zero, List.getElem?_cons_succ]
            go_simp
            have g8 := hHeld.1.size
            have hne := Nat.ne_of_gt x7.lt
            have x8 := box_made hHeld.1 3 (.int .i64 0)
            have c8 := x8.cell
            have f8 := x8.frozen
            have x7 := x7.alloc (.cells #[.int .i64 0] 3)
            have c7 := x7.cell
            have f7 := x7.frozen
            refine hK.out _ _ (HS.out _ (hHeld.1.alloc hHeld.1.size _)) (fun hHeld => ?_)
            clear hK K
            refine wpAnyH_gen (fun Wc hWc => ?_)
            rw [← hWc] at hHeld x8 c8 f8
            rw [← hWc] at x7 c7 f7
            clear hWc
            try simp only [Act.put, List.setIfInBounds_toArray, List.set_cons_zero, List.set_cons_succ]
            refine held_c (i := 6) (by kernel_rfl) (by rfl) (fun K hK => ?_)
            simp only [List.getElem?_toArray, List.getElem?_cons_zero, List.getElem?_cons_succ]
            go_simp
            have x7 := x7.set (.int .i64 (a : Int))
            have x8 := box_far x8 hne (.int .i64 (a : Int))
            have c8 := x8.cell
            have f8 := x8.frozen
            refine hK.out _ _ (HS.out _ (hHeld.1.setCell (p := ⟨_, 0, none⟩) g7 (.int .i64 (a : Int)))) (fun hHeld => ?_)
            clear hK K
            try simp only [Act.put, List.setIfInBounds_toArray, List.set_cons_zero, List.set_cons_succ]
            refine held_c (i := 7) (by kernel_rfl) (by rfl) (fun K hK => ?_)
            simp only [List.getElem?_toArray, List.getElem?_cons_zero, List.getElem?_cons_succ]
            go_simp
            have x8 := x8.set (.int .i64 (b : Int))
            have x7 := box_far x7 hne.symm (.int .i64 (b : Int))
            refine hK.out _ _ (HS.out _ (hHeld.1.setCell (p := ⟨_, 0, none⟩) g8 (.int .i64 (b : Int)))) (fun hHeld => ?_)
            clear hK K
            try simp only [Act.put, List.setIfInBounds_toArray, List.set_cons_zero, List.set_cons_succ]
            refine wpAnyH_done (by kernel_rfl) ?_ _
            exact ⟨_, _, rfl, x7, x8, g7, g8, hHeld.1⟩
          · refine ⟨by rfl, fun K hK => ?_⟩
            simp only [List.getElem?_toArray, List.getElem?_cons_zero, List.getElem?_cons_succ]
            go_simp
            have g8 := hHeld.1.size
            have hne := Nat.ne_of_gt x7.lt
            have x8 := box_made hHeld.1 3 (.int .i64 0)
            have c8 := x8.cell
            have f8 := x8.frozen
            have x7 := x7.alloc (.cells #[.int .i64 0] 3)
            have c7 := x7.cell
            have f7 := x7.frozen
            refine hK.out _ _ (HS.out _ (hHeld.1.alloc hHeld.1.size _)) (fun hHeld => ?_)
            clear hK K
            refine wpAnyH_gen (fun Wc hWc => ?_)
            rw [← hWc] at hHeld x8 c8 f8
            rw [← hWc] at x7 c7 f7
            clear hWc
            try simp only [Act.put, List.setIfInBounds_toArray, List.set_cons_zero, List.set_cons_succ]
            refine held_c (i := 3) (by kernel_rfl) (by rfl) (fun K hK => ?_)
            simp only [List.getElem?_toArray, List.getElem?_cons_zero, List.getElem?_cons_succ]
            go_simp
            refine (best_c _ _ _ _ _ hm2 (u2.below hHeld.1)).mono ?_
            rintro e w' ⟨rfl, hk⟩
            rw [hbb]
            have x7 := box_below x7 hk (Nat.le_refl _)
            have c7 := x7.cell
            have f7 := x7.frozen
            have x8 := box_below x8 hk (Nat.le_refl _)
            have c8 := x8.cell
            have f8 := x8.frozen
            refine hK.out _ _ (HS.out _ (below2 hHeld.1 hk hHeld.1.size)) (fun hHeld => ?_)
            clear hK K
            try simp only [Act.put, List.setIfInBounds_toArray, List.set_cons_zero, List.set_cons_succ]
            refine held_c (i := 6) (by kernel_rfl) (by rfl) (fun K hK => ?_)
            simp only [List.getElem?_toArray, List.getElem?_cons_zero, List.getElem?_cons_succ]
            go_simp
            have x7 := x7.set (.int .i64 (a : Int))
            have x8 := box_far x8 hne (.int .i64 (a : Int))
            have c8 := x8.cell
            have f8 := x8.frozen
            refine hK.out _ _ (HS.out _ (hHeld.1.setCell (p := ⟨_, 0, none⟩) g7 (.int .i64 (a : Int)))) (fun hHeld => ?_)
            clear hK K
            try simp only [Act.put, List.setIfInBounds_toArray, List.set_cons_zero, List.set_cons_succ]
            refine held_c (i := 7) (by kernel_rfl) (by rfl) (fun K hK => ?_)
            simp only [List.getElem?_toArray, List.getElem?_cons_zero, List.getElem?_cons_succ]
            go_simp
            have x8 := x8.set (.int .i64 (b : Int))
            have x7 := box_far x7 hne.symm (.int .i64 (b : Int))
            refine hK.out _ _ (HS.out _ (hHeld.1.setCell (p := ⟨_, 0, none⟩) g8 (.int .i64 (b : Int)))) (fun hHeld => ?_)
            clear hK K
            try simp only [Act.put, List.setIfInBounds_toArray, List.set_cons_zero, List.set_cons_succ]
            refine wpAnyH_done (by kernel_rfl) ?_ _
            exact ⟨_, _, rfl, x7, x8, g7, g8, hHeld.1⟩
        · refine ⟨by rfl, fun K hK => ?_⟩
          simp only [List.getElem?_toArray, List.getElem?_cons_zero, List.getElem?_cons_succ]
          go_simp
          have g8 := hHeld.1.size
          have x8 := box_made hHeld.1 3 (.int .i64 0)
          have c8 := x8.cell
          have f8 := x8.frozen
          refine hK.out _ _ (HS.out _ (hHeld.1.alloc hHeld.1.size _)) (fun hHeld => ?_)
          clear hK K
          refine wpAnyH_gen (fun Wc hWc => ?_)
          rw [← hWc] at hHeld x8 c8 f8
          clear hWc
          try simp only [Act.put, List.setIfInBounds_toArray, List.set_cons_zero, List.set_cons_succ]
          refine held_many (rs := [3, 4]) (by kernel_rfl) (by simp) ⟨?_, ?_, trivial⟩
          · refine ⟨by rfl, fun K hK => ?_⟩
            simp only [List.getElem?_toArray, List.getElem?_cons_zero, List.getElem?_cons_succ]
            go_simp
            refine (best_c _ _ _ _ _ hm2 (u2.below hHeld.1)).mono ?_
            rintro e w' ⟨rfl, hk⟩
            rw [hbb]
            have x8 := box_below x8 hk (Nat.le_refl _)
            have c8 := x8.cell
            have f8 := x8.frozen
            refine hK.out _ _ (HS.out _ (below2 hHeld.1 hk hHeld.1.size)) (fun hHeld => ?_)
            clear hK K
            try simp only [Act.put, List.setIfInBounds_toArray, List.set_cons_zero, List.set_cons_succ]
            refine held_c (i := 4) (by kernel_rfl) (by rfl) (fun K hK => ?_)
            simp only [List.getElem?_toArray, List.getElem?_cons_zero, List.getElem?_cons_succ]
            go_simp
            have g7 := hHeld.1.size
            have hne := Nat.ne_of_lt x8.lt
            have x7 := box_made hHeld.1 3 (.int .i64 0)
            have c7 := x7.cell
            have f7 := x7.frozen
            have x8 := x8.alloc (.cells #[.int .i64 0] 3)
            have c8 := x8.cell
            have f8 := x8.frozen
            refine hK.out _ _ (HS.out _ (hHeld.1.alloc hHeld.1.size _)) (fun hHeld => ?_)
            clear hK K
            refine wpAnyH_gen (fun Wc hWc => ?_)
            rw [← hWc] at hHeld x7 c7 f7
            rw [← hWc] at x8 c8 f8
            clear hWc
            try simp only [Act.put, List.setIfInBounds_toArray, List.set_cons_zero, List.set_cons_succ]
            refine held_c (i := 6) (by kernel_rfl) (by rfl) (fun K hK => ?_)
            simp only [List.getElem?_toArray, List.getElem?_cons_zero, List.getElem?_cons_succ]
            go_simp
            have x7 := x7.set (.int .i64 (a : Int))
            have x8 := box_far x8 hne (.int .i64 (a : Int))
            have c8 := x8.cell
            have f8 := x8.frozen
            refine hK.out _ _ (HS.out _ (hHeld.1.setCell (p := ⟨_, 0, none⟩) g7 (.int .i64 (a : Int)))) (fun hHeld => ?_)
            clear hK K
            try simp only [Act.put, List.setIfInBounds_toArray, List.set_cons_zero, List.set_cons_succ]
            refine held_c (i := 7) (by kernel_rfl) (by rfl) (fun K hK => ?_)
            simp only [List.getElem?_toArray, List.getElem?_cons_zero, List.getElem?_cons_succ]
            go_simp
            have x8 := x8.set (.int .i64 (b : Int))
            have x7 := box_far x7 hne.symm (.int .i64 (b : Int))
            refine hK.out _ _ (HS.out _ (hHeld.1.setCell (p := ⟨_, 0, none⟩) g8 (.int .i64 (b : Int)))) (fun hHeld => ?_)
            clear hK K
            try simp only [Act.put, List.setIfInBounds_toArray, List.set_cons_zero, List.set_cons_succ]
            refine wpAnyH_done (by kernel_rfl) ?_ _
            exact ⟨_, _, rfl, x7, x8, g7, g8, hHeld.1⟩
          · refine ⟨by rfl, fun K hK => ?_⟩
            simp only [List.getElem?_toArray, List.getElem?_cons_zero, List.getElem?_cons_succ]
            go_simp
            have g7 := hHeld.1.size
            have hne := Nat.ne_of_lt x8.lt
            have x7 := box_made hHeld.1 3 (.int .i64 0)
            have c7 := x7.cell
            have f7 := x7.frozen
            have x8 := x8.alloc (.cells #[.int .i64 0] 3)
            have c8 := x8.cell
            have f8 := x8.frozen
            refine hK.out _ _ (HS.out _ (hHeld.1.alloc hHeld.1.size _)) (fun hHeld => ?_)
            clear hK K
            refine wpAnyH_gen (fun Wc hWc => ?_)
            rw [← hWc] at hHeld x7 c7 f7
            rw [← hWc] at x8 c8 f8
            clear hWc
            try simp only [Act.put, List.setIfInBounds_toArray, List.set_cons_zero, List.set_cons_succ]
            refine held_c (i := 3) (by kernel_rfl) (by rfl) (fun K hK => ?_)
            simp only [List.getElem?_toArray, List.getElem?_cons_zero, List.getElem?_cons_succ]
            go_simp
            refine (best_c _ _ _ _ _ hm2 (u2.below hHeld.1)).mono ?_
            rintro e w' ⟨rfl, hk⟩
            rw [hbb]
            have x7 := box_below x7 hk (Nat.le_refl _)
            have c7 := x7.cell
            have f7 := x7.frozen
            have x8 := box_below x8 hk (Nat.le_refl _)
            have c8 := x8.cell
            have f8 := x8.frozen
            refine hK.out _ _ (HS.out _ (below2 hHeld.1 hk hHeld.1.size)) (fun hHeld => ?_)
            clear hK K
            try simp only [Act.put, List.setIfInBounds_toArray, List.set_cons_zero, List.set_cons_succ]
            refine held_c (i := 6) (by kernel_rfl) (by rfl) (fun K hK => ?_)
            simp only [List.getElem?_toArray, List.getElem?_cons_zero, List.getElem?_cons_succ]
            go_simp
            have x7 := x7.set (.int .i64 (a : Int))
            have x8 := box_far x8 hne (.int .i64 (a : Int))
            have c8 := x8.cell
            have f8 := x8.frozen
            refine hK.out _ _ (HS.out _ (hHeld.1.setCell (p := ⟨_, 0, none⟩) g7 (.int .i64 (a : Int)))) (fun hHeld => ?_)
            clear hK K
            try simp only [Act.put, List.setIfInBounds_toArray, List.set_cons_zero, List.set_cons_succ]
            refine held_c (i := 7) (by kernel_rfl) (by rfl) (fun K hK => ?_)
            simp only [List.getElem?_toArray, List.getElem?_cons_zero, List.getElem?_cons_succ]
            go_simp
            have x8 := x8.set (.int .i64 (b : Int))
            have x7 := box_far x7 hne.symm (.int .i64 (b : Int))
            refine hK.out _ _ (HS.out _ (hHeld.1.setCell (p := ⟨_, 0, none⟩) g8 (.int .i64 (b : Int)))) (fun hHeld => ?_)
            clear hK K
            try simp only [Act.put, List.setIfInBounds_toArray, List.set_cons_zero, List.set_cons_succ]
            refine wpAnyH_done (by kernel_rfl) ?_ _
            exact ⟨_, _, rfl, x7, x8, g7, g8, hHeld.1⟩
      · refine ⟨by rfl, fun K hK => ?_⟩
        simp only [List.getElem?_toArray, List.getElem?_cons_zero, List.getElem?_cons_succ]
        go_simp
        have g7 := hHeld.1.size
        have x7 := box_made hHeld.1 3 (.int .i64 0)
        have c7 := x7.cell
        have f7 := x7.frozen
        refine hK.out _ _ (HS.out _ (hHeld.1.alloc hHeld.1.size _)) (fun hHeld => ?_)
        clear hK K
        refine wpAnyH_gen (fun Wc hWc => ?_)
        rw [← hWc] at hHeld x7 c7 f7
        clear hWc
        try simp only [Act.put, List.setIfInBounds_toArray, List.set_cons_zero, List.set_cons_succ]
        refine held_many (rs := [1, 5]) (by kernel_rfl) (by simp) ⟨?_, ?_, trivial⟩
        · refine ⟨by rfl, fun K hK => ?_⟩
          simp only [List.getElem?_toArray, List.getElem?_cons_zero, List.getElem?_cons_succ]
          go_simp
          refine (best_c _ _ _ _ _ hm1 (u1.below hHeld.1)).mono ?_
          rintro e w' ⟨rfl, hk⟩
          rw [ha]
          have x7 := box_below x7 hk (Nat.le_refl _)
          have c7 := x7.cell
          have f7 := x7.frozen
          refine hK.out _ _ (HS.out _ (below2 hHeld.1 hk hHeld.1.size)) (fun hHeld => ?_)
          clear hK K
          try simp only [Act.put, List.setIfInBounds_toArray, List.set_cons_zero, List.set_cons_succ]
          refine held_many (rs := [3, 5]) (by kernel_rfl) (by simp) ⟨?_, ?_, trivial⟩
          · refine ⟨by rfl, fun K hK => ?_⟩
            simp only [List.getElem?_toArray, List.getElem?_cons_zero, List.getElem?_cons_succ]
            go_simp
            refine (best_c _ _ _ _ _ hm2 (u2.below hHeld.1)).mono ?_
            rintro e w' ⟨rfl, hk⟩
            rw [hbb]
            have x7 := box_below x7 hk (Nat.le_refl _)
            have c7 := x7.cell
            have f7 := x7.frozen
            refine hK.out _ _ (HS.out _ (below2 hHeld.1 hk hHeld.1.size)) (fun hHeld => ?_)
            clear hK K
            try simp only [Act.put, List.setIfInBounds_toArray, List.set_cons_zero, List.set_cons_succ]
            refine held_c (i := 5) (by kernel_rfl) (by rfl) (fun K hK => ?_)
            simp only [List.getElem?_toArray, List.getElem?_cons_zero, List.getElem?_cons_succ]
            go_simp
            have g8 := hHeld.1.size
            have hne := Nat.ne_of_gt x7.lt
            have x8 := box_made hHeld.1 3 (.int .i64 0)
            have c8 := x8.cell
            have f8 := x8.frozen
            have x7 := x7.alloc (.cells #[.int .i64 0] 3)
            have c7 := x7.cell
            have f7 := x7.frozen
            refine hK.out _ _ (HS.out _ (hHeld.1.alloc hHeld.1.size _)) (fun hHeld => ?_)
            clear hK K
            refine wpAnyH_gen (fun Wc hWc => ?_)
            rw [← hWc] at hHeld x8 c8 f8
            rw [← hWc] at x7 c7 f7
            clear hWc
            try simp only [Act.put, List.setIfInBounds_toArray, List.set_cons_zero, List.set_cons_succ]
            refine held_c (i := 6) (by kernel_rfl) (by rfl) (fun K hK => ?_)
            simp only [List.getElem?_toArray, List.getElem?_cons_zero, List.getElem?_cons_succ]
            go_simp
            have x7 := x7.set (.int .i64 (a : Int))
            have x8 := box_far x8 hne (.int .i64 (a : Int))
            have c8 := x8.cell
            have f8 := x8.frozen
            refine hK.out _ _ (HS.out _ (hHeld.1.setCell (p := ⟨_, 0, none⟩) g7 (.int .i64 (a : Int)))) (fun hHeld => ?_)
            clear hK K
            try simp only [Act.put, List.setIfInBounds_toArray, List.set_cons_zero, List.set_cons_succ]
            refine held_c (i := 7) (by kernel_rfl) (by rfl) (fun K hK => ?_)
            simp only [List.getElem?_toArray, List.getElem?_cons_zero, List.getElem?_cons_succ]
            go_simp
            have x8 := x8.set (.int .i64 (b : Int))
            have x7 := box_far x7 hne.symm (.int .i64 (b : Int))
            refine hK.out _ _ (HS.out _ (hHeld.1.setCell (p := ⟨_, 0, none⟩) g8 (.int .i64 (b : Int)))) (fun hHeld => ?_)
            clear hK K
            try simp only [Act.put, List.setIfInBounds_toArray, List.set_cons_zero, List.set_cons_succ]
            refine wpAnyH_done (by kernel_rfl) ?_ _
            exact ⟨_, _, rfl, x7, x8, g7, g8, hHeld.1⟩
          · refine ⟨by rfl, fun K hK => ?_⟩
            simp only [List.getElem?_toArray, List.getElem?_cons_zero, List.getElem?_cons_succ]
            go_simp
            have g8 := hHeld.1.size
            have hne := Nat.ne_of_gt x7.lt
            have x8 := box_made hHeld.1 3 (.int .i64 0)
            have c8 := x8.cell
            have f8 := x8.frozen
            have x7 := x7.alloc (.cells #[.int .i64 0] 3)
            have c7 := x7.cell
            have f7 := x7.frozen
            refine hK.out _ _ (HS.out _ (hHeld.1.alloc hHeld.1.size _)) (fun hHeld => ?_)
            clear hK K
            refine wpAnyH_gen (fun Wc hWc => ?_)
            rw [← hWc] at hHeld x8 c8 f8
            rw [← hWc] at x7 c7 f7
            clear hWc
            try simp only [Act.put, List.setIfInBounds_toArray, List.set_cons_zero, List.set_cons_succ]
            refine held_c (i := 3) (by kernel_rfl) (by rfl) (fun K hK => ?_)
            simp only [List.getElem?_toArray, List.getElem?_cons_zero, List.getElem?_cons_succ]
            go_simp
            refine (best_c _ _ _ _ _ hm2 (u2.below hHeld.1)).mono ?_
            rintro e w' ⟨rfl, hk⟩
            rw [hbb]
            have x7 := box_below x7 hk (Nat.le_refl _)
            have c7 := x7.cell
            have f7 := x7.frozen
            have x8 := box_below x8 hk (Nat.le_refl _)
            have c8 := x8.cell
            have f8 := x8.frozen
            refine hK.out _ _ (HS.out _ (below2 hHeld.1 hk hHeld.1.size)) (fun hHeld => ?_)
            clear hK K
            try simp only [Act.put, List.setIfInBounds_toArray, List.set_cons_zero, List.set_cons_succ]
            refine held_c (i := 6) (by kernel_rfl) (by rfl) (fun K hK => ?_)
            simp only [List.getElem?_toArray, List.getElem?_cons_zero, List.getElem?_cons_succ]
            go_simp
            have x7 := x7.set (.int .i64 (a : Int))
            have x8 := box_far x8 hne (.int .i64 (a : Int))
            have c8 := x8.cell
            have f8 := x8.frozen
            refine hK.out _ _ (HS.out _ (hHeld.1.setCell (p := ⟨_, 0, none⟩) g7 (.int .i64 (a : Int)))) (fun hHeld => ?_)
            clear hK K
            try simp only [Act.put, List.setIfInBounds_toArray, List.set_cons_zero, List.set_cons_succ]
            refine held_c (i := 7) (by kernel_rfl) (by rfl) (fun K hK => ?_)
            simp only [List.getElem?_toArray, List.getElem?_cons_zero, List.getElem?_cons_succ]
            go_simp
            have x8 := x8.set (.int .i64 (b : Int))
            have x7 := box_far x7 hne.symm (.int .i64 (b : Int))
            refine hK.out _ _ (HS.out _ (hHeld.1.setCell (p := ⟨_, 0, none⟩) g8 (.int .i64 (b : Int)))) (fun hHeld => ?_)
            clear hK K
            try simp only [Act.put, List.setIfInBounds_toArray, List.set_cons_zero, List.set_cons_succ]
            refine wpAnyH_done (by kernel_rfl) ?_ _
            exact ⟨_, _, rfl, x7, x8, g7, g8, hHeld.1⟩
        · refine ⟨by rfl, fun K hK => ?_⟩
          simp only [List.getElem?_toArray, List.getElem?_cons_zero, List.getElem?_cons_succ]
          go_simp
          have g8 := hHeld.1.size
          have hne := Nat.ne_of_gt x7.lt
          have x8 := box_made hHeld.1 3 (.int .i64 0)
          have c8 := x8.cell
          have f8 := x8.frozen
          have x7 := x7.alloc (.cells #[.int .i64 0] 3)
          have c7 := x7.cell
          have f7 := x7.frozen
          refine hK.out _ _ (HS.out _ (hHeld.1.alloc hHeld.1.size _)) (fun hHeld => ?_)
          clear hK K
          refine wpAnyH_gen (fun Wc hWc => ?_)
          rw [← hWc] at hHeld x8 c8 f8
          rw [← hWc] at x7 c7 f7
          clear hWc
          try simp only [Act.put, List.setIfInBounds_toArray, List.set_cons_zero, List.set_cons_succ]
          refine held_c (i := 1) (by kernel_rfl) (by rfl) (fun K hK => ?_)
          simp only [List.getElem?_toArray, List.getElem?_cons_zero, List.getElem?_cons_succ]
          go_simp
          refine (best_c _ _ _ _ _ hm1 (u1.below hHeld.1)).mono ?_
          rintro e w' ⟨rfl, hk⟩
          rw [ha]
          have x7 := box_below x7 hk (Nat.le_refl _)
          have c7 := x7.cell
          have f7 := x7.frozen
          have x8 := box_below x8 hk (Nat.le_refl _)
          have c8 := x8.cell
          have f8 := x8.frozen
          refine hK.out _ _ (HS.out _ (below2 hHeld.1 hk hHeld.1.size)) (fun hHeld => ?_)
          clear hK K
          try simp only [Act.put, List.setIfInBounds_toArray, List.set_cons_zero, List.set_cons_succ]
          refine held_c (i := 3) (by kernel_rfl) (by rfl) (fun K hK => ?_)
          simp only [List.getElem?_toArray, List.getElem?_cons_zero, List.getElem?_cons_succ]
          go_simp
          refine (best_c _ _ _ _ _ hm2 (u2.below hHeld.1)).mono ?_
          rintro e w' ⟨rfl, hk⟩
          rw [hbb]
          have x7 := box_below x7 hk (Nat.le_refl _)
          have c7 := x7.cell
          have f7 := x7.frozen
          have x8 := box_below x8 hk (Nat.le_refl _)
          have c8 := x8.cell
          have f8 := x8.frozen
          refine hK.out _ _ (HS.out _ (below2 hHeld.1 hk hHeld.1.size)) (fun hHeld => ?_)
          clear hK K
          try simp only [Act.put, List.setIfInBounds_toArray, List.set_cons_zero, List.set_cons_succ]
          refine held_c (i := 6) (by kernel_rfl) (by rfl) (fun K hK => ?_)
          simp only [List.getElem?_toArray, List.getElem?_cons_zero, List.getElem?_cons_succ]
          go_simp
          have x7 := x7.set (.int .i64 (a : Int))
          have x8 := box_far x8 hne (.int .i64 (a : Int))
          have c8 := x8.cell
          have f8 := x8.frozen
          refine hK.out _ _ (HS.out _ (hHeld.1.setCell (p := ⟨_, 0, none⟩) g7 (.int .i64 (a : Int)))) (fun hHeld => ?_)
          clear hK K
          try simp only [Act.put, List.setIfInBounds_toArray, List.set_cons_zero, List.set_cons_succ]
          refine held_c (i := 7) (by kernel_rfl) (by rfl) (fun K hK => ?_)
          simp only [List.getElem?_toArray, List.getElem?_cons_zero, List.getElem?_cons_succ]
          go_simp
          have x8 := x8.set (.int .i64 (b : Int))
          have x7 := box_far x7 hne.symm (.int .i64 (b : Int))
          refine hK.out _ _ (HS.out _ (hHeld.1.setCell (p := ⟨_, 0, none⟩) g8 (.int .i64 (b : Int)))) (fun hHeld => ?_)
          clear hK K
          try simp only [Act.put, List.setIfInBounds_toArray, List.set_cons_zero, List.set_cons_succ]
          refine wpAnyH_done (by kernel_rfl) ?_ _
          exact ⟨_, _, rfl, x7, x8, g7, g8, hHeld.1⟩
      · refine ⟨by rfl, fun K hK => ?_⟩
        simp only [List.getElem?_toArray, List.getElem?_cons_zero, List.getElem?_cons_succ]
        go_simp
        have g8 := hHeld.1.size
        have x8 := box_made hHeld.1 3 (.int .i64 0)
        have c8 := x8.cell
        have f8 := x8.frozen
        refine hK.out _ _ (HS.out _ (hHeld.1.alloc hHeld.1.size _)) (fun hHeld => ?_)
        clear hK K
        refine wpAnyH_gen (fun Wc hWc => ?_)
        rw [← hWc] at hHeld x8 c8 f8
        clear hWc
        try simp only [Act.put, List.setIfInBounds_toArray, List.set_cons_zero, List.set_cons_succ]
        refine held_many (rs := [1, 4]) (by kernel_rfl) (by simp) ⟨?_, ?_, trivial⟩
        · refine ⟨by rfl, fun K hK => ?_⟩
          simp only [List.getElem?_toArray, List.getElem?_cons_zero, List.getElem?_cons_succ]
          go_simp
          refine (best_c _ _ _ _ _ hm1 (u1.below hHeld.1)).mono ?_
          rintro e w' ⟨rfl, hk⟩
          rw [ha]
          have x8 := box_below x8 hk (Nat.le_refl _)
          have c8 := x8.cell
          have f8 := x8.frozen
          refine hK.out _ _ (HS.out _ (below2 hHeld.1 hk hHeld.1.size)) (fun hHeld => ?_)
          clear hK K
          try simp only [Act.put, List.setIfInBounds_toArray, List.set_cons_zero, List.set_cons_succ]
          refine held_many (rs := [3, 4]) (by kernel_rfl) (by simp) ⟨?_, ?_, trivial⟩
          · refine ⟨by rfl, fun K hK => ?_⟩
            simp only [List.getElem?_toArray, List.getElem?_cons_zero, List.getElem?_cons_succ]
            go_simp
            refine (best_c _ _ _ _ _ hm2 (u2.below hHeld.1)).mono ?_
            rintro e w' ⟨rfl, hk⟩
            rw [hbb]
            have x8 := box_below x8 hk (Nat.le_refl _)
            have c8 := x8.cell
            have f8 := x8.frozen
            refine hK.out _ _ (HS.out _ (below2 hHeld.1 hk hHeld.1.size)) (fun hHeld => ?_)
            clear hK K
            try simp only [Act.put, List.setIfInBounds_toArray, List.set_cons_zero, List.set_cons_succ]
            refine held_c (i := 4) (by kernel_rfl) (by rfl) (fun K hK => ?_)
            simp only [List.getElem?_toArray, List.getElem?_cons_zero, List.getElem?_cons_succ]
            go_simp
            have g7 := hHeld.1.size
            have hne := Nat.ne_of_lt x8.lt
            have x7 := box_made hHeld.1 3 (.int .i64 0)
            have c7 := x7.cell
            have f7 := x7.frozen
            have x8 := x8.alloc (.cells #[.int .i64 0] 3)
            have c8 := x8.cell
            have f8 := x8.frozen
            refine hK.out _ _ (HS.out _ (hHeld.1.alloc hHeld.1.size _)) (fun hHeld => ?_)
            clear hK K
            refine wpAnyH_gen (fun Wc hWc => ?_)
            rw [← hWc] at hHeld x7 c7 f7
            rw [← hWc] at x8 c8 f8
            clear hWc
            try simp only [Act.put, List.setIfInBounds_toArray, List.set_cons_zero, List.set_cons_succ]
            refine held_c (i := 6) (by kernel_rfl) (by rfl) (fun K hK => ?_)
            simp only [List.getElem?_toArray, List.getElem?_cons_zero, List.getElem?_cons_succ]
            go_simp
            have x7 := x7.set (.int .i64 (a : Int))
            have x8 := box_far x8 hne (.int .i64 (a : Int))
            have c8 := x8.cell
            have f8 := x8.frozen
            refine hK.out _ _ (HS.out _ (hHeld.1.setCell (p := ⟨_, 0, none⟩) g7 (.int .i64 (a : Int)))) (fun hHeld => ?_)
            clear hK K
            try simp only [Act.put, List.setIfInBounds_toArray, List.set_cons_zero, List.set_cons_succ]
            refine held_c (i := 7) (by kernel_rfl) (by rfl) (fun K hK => ?_)
            simp only [List.getElem?_toArray, List.getElem?_cons_zero, List.getElem?_cons_succ]
            go_simp
            have x8 := x8.set (.int .i64 (b : Int))
            have x7 := box_far x7 hne.symm (.int .i64 (b : Int))
            refine hK.out _ _ (HS.out _ (hHeld.1.setCell (p := ⟨_, 0, none⟩) g8 (.int .i64 (b : Int)))) (fun hHeld => ?_)
            clear hK K
            try simp only [Act.put, List.setIfInBounds_toArray, List.set_cons_zero, List.set_cons_succ]
            refine wpAnyH_done (by kernel_rfl) ?_ _
            exact ⟨_, _, rfl, x7, x8, g7, g8, hHeld.1⟩
          · refine ⟨by rfl, fun K hK => ?_⟩
            simp only [List.getElem?_toArray, List.getElem?_cons_zero, List.getElem?_cons_succ]
            go_simp
            have g7 := hHeld.1.size
            have hne := Nat.ne_of_lt x8.lt
            have x7 := box_made hHeld.1 3 (.int .i64 0)
            have c7 := x7.cell
            have f7 := x7.frozen
            have x8 := x8.alloc (.cells #[.int .i64 0] 3)
            have c8 := x8.cell
            have f8 := x8.frozen
            refine hK.out _ _ (HS.out _ (hHeld.1.alloc hHeld.1.size _)) (fun hHeld => ?_)
            clear hK K
            refine wpAnyH_gen (fun Wc hWc => ?_)
            rw [← hWc] at hHeld x7 c7 f7
            rw [← hWc] at x8 c8 f8
            clear hWc
            try simp only [Act.put, List.setIfInBounds_toArray, List.set_cons_zero, List.set_cons_succ]
            refine held_c (i := 3) (by kernel_rfl) (by rfl) (fun K hK => ?_)
            simp only [List.getElem?_toArray, List.getElem?_cons_zero, List.getElem?_cons_succ]
            go_simp
            refine (best_c _ _ _ _ _ hm2 (u2.below hHeld.1)).mono ?_
            rintro e w' ⟨rfl, hk⟩
            rw [hbb]
            have x7 := box_below x7 hk (Nat.le_refl _)
            have c7 := x7.cell
            have f7 := x7.frozen
            have x8 := box_below x8 hk (Nat.le_refl _)
            have c8 := x8.cell
            have f8 := x8.frozen
            refine hK.out _ _ (HS.out _ (below2 hHeld.1 hk hHeld.1.size)) (fun hHeld => ?_)
            clear hK K
            try simp only [Act.put, List.setIfInBounds_toArray, List.set_cons_zero, List.set_cons_succ]
            refine held_c (i := 6) (by kernel_rfl) (by rfl) (fun K hK => ?_)
            simp only [List.getElem?_toArray, List.getElem?_cons_zero, List.getElem?_cons_succ]
            go_simp
            have x7 := x7.set (.int .i64 (a : Int))
            have x8 := box_far x8 hne (.int .i64 (a : Int))
            have c8 := x8.cell
            have f8 := x8.frozen
            refine hK.out _ _ (HS.out _ (hHeld.1.setCell (p := ⟨_, 0, none⟩) g7 (.int .i64 (a : Int)))) (fun hHeld => ?_)
            clear hK K
            try simp only [Act.put, List.setIfInBounds_toArray, List.set_cons_zero, List.set_cons_succ]
            refine held_c (i := 7) (by kernel_rfl) (by rfl) (fun K hK => ?_)
            simp only [List.getElem?_toArray, List.getElem?_cons_zero, List.getElem?_cons_succ]
            go_simp
            have x8 := x8.set (.int .i64 (b : Int))
            have x7 := box_far x7 hne.symm (.int .i64 (b : Int))
            refine hK.out _ _ (HS.out _ (hHeld.1.setCell (p := ⟨_, 0, none⟩) g8 (.int .i64 (b : Int)))) (fun hHeld => ?_)
            clear hK K
            try simp only [Act.put, List.setIfInBounds_toArray, List.set_cons_zero, List.set_cons_succ]
            refine wpAnyH_done (by kernel_rfl) ?_ _
            exact ⟨_, _, rfl, x7, x8, g7, g8, hHeld.1⟩
        · refine ⟨by rfl, fun K hK => ?_⟩
          simp only [List.getElem?_toArray, List.getElem?_cons_zero, List.getElem?_cons_succ]
          go_simp
          have g7 := hHeld.1.size
          have hne := Nat.ne_of_lt x8.lt
          have x7 := box_made hHeld.1 3 (.int .i64 0)
          have c7 := x7.cell
          have f7 := x7.frozen
          have x8 := x8.alloc (.cells #[.int .i64 0] 3)
          have c8 := x8.cell
          have f8 := x8.frozen
          refine hK.out _ _ (HS.out _ (hHeld.1.alloc hHeld.1.size _)) (fun hHeld => ?_)
          clear hK K
          refine wpAnyH_gen (fun Wc hWc => ?_)
          rw [← hWc] at hHeld x7 c7 f7
          rw [← hWc] at x8 c8 f8
          clear hWc
          try simp only [Act.put, List.setIfInBounds_toArray, List.set_cons_zero, List.set_cons_succ]
          refine held_c (i := 1) (by kernel_rfl) (by rfl) (fun K hK => ?_)
          simp only [List.getElem?_toArray, List.getElem?_cons_zero, List.getElem?_cons_succ]
          go_simp
          refine (best_c _ _ _ _ _ hm1 (u1.below hHeld.1)).mono ?_
          rintro e w' ⟨rfl, hk⟩
          rw [ha]
          have x7 := box_below x7 hk (Nat.le_refl _)
          have c7 := x7.cell
          have f7 := x7.frozen
          have x8 := box_below x8 hk (Nat.le_refl _)
          have c8 := x8.cell
          have f8 := x8.frozen
          refine hK.out _ _ (HS.out _ (below2 hHeld.1 hk hHeld.1.size)) (fun hHeld => ?_)
          clear hK K
          try simp only [Act.put, List.setIfInBounds_toArray, List.set_cons_zero, List.set_cons_succ]
          refine held_c (i := 3) (by kernel_rfl) (by rfl) (fun K hK => ?_)
          simp only [List.getElem?_toArray, List.getElem?_cons_zero, List.getElem?_cons_succ]
          go_simp
          refine (best_c _ _ _ _ _ hm2 (u2.below hHeld.1)).mono ?_
          rintro e w' ⟨rfl, hk⟩
          rw [hbb]
          have x7 := box_below x7 hk (Nat.le_refl _)
          have c7 := x7.cell
          have f7 := x7.frozen
          have x8 := box_below x8 hk (Nat.le_refl _)
          have c8 := x8.cell
          have f8 := x8.frozen
          refine hK.out _ _ (HS.out _ (below2 hHeld.1 hk hHeld.1.size)) (fun hHeld => ?_)
          clear hK K
          try simp only [Act.put, List.setIfInBounds_toArray, List.set_cons_zero, List.set_cons_succ]
          refine held_c (i := 6) (by kernel_rfl) (by rfl) (fun K hK => ?_)
          simp only [List.getElem?_toArray, List.getElem?_cons_zero, List.getElem?_cons_succ]
          go_simp
          have x7 := x7.set (.int .i64 (a : Int))
          have x8 := box_far x8 hne (.int .i64 (a : Int))
          have c8 := x8.cell
          have f8 := x8.frozen
          refine hK.out _ _ (HS.out _ (hHeld.1.setCell (p := ⟨_, 0, none⟩) g7 (.int .i64 (a : Int)))) (fun hHeld => ?_)
          clear hK K
          try simp only [Act.put, List.setIfInBounds_toArray, List.set_cons_zero, List.set_cons_succ]
          refine held_c (i := 7) (by kernel_rfl) (by rfl) (fun K hK => ?_)
          simp only [List.getElem?_toArray, List.getElem?_cons_zero, List.getElem?_cons_succ]
          go_simp
          have x8 := x8.set (.int .i64 (b : Int))
          have x7 := box_far x7 hne.symm (.int .i64 (b : Int))
          refine hK.out _ _ (HS.out _ (hHeld.1.setCell (p := ⟨_, 0, none⟩) g8 (.int .i64 (b : Int)))) (fun hHeld => ?_)
          clear hK K
          try simp only [Act.put, List.setIfInBounds_toArray, List.set_cons_zero, List.set_cons_succ]
          refine wpAnyH_done (by kernel_rfl) ?_ _
          exact ⟨_, _, rfl, x7, x8, g7, g8, hHeld.1⟩
    case rest =>
      refine only_imp ?_
      rintro a' w' ⟨b7, b8, rfl, x7, x8, g7, g8, hb7⟩
      clear HS hc1 hc2
      have hb7' : Below w.heap.size w w' := below2 hb hb7 hb.size
      have hs7 := hb7'.size
      have hkD : w'.heap[D]? = some (.deferred (some [])) := (hb7.block D (lt_of_block hKD)).trans hKD
      have hDn : w.heap.size ≤ D := by omega
      have ha40 : a ≤ 40 := by rw [← ha]; exact bestTo_le _ _
      have hb40 : b ≤ 40 := by rw [← hbb]; exact bestTo_le _ _
      have hx7 := x7.lt
      have hx8 := x8.lt
      have y7 := ((x7.alloc (.cells #[.slice none 0 0, .int .i64 0] 78)).alloc (.cells #[.pointer (some ⟨w'.heap.size, 0, none⟩)] 73)).alloc (.cells #[.slice A (r.length + 1) cap] 22)
      have y8 := ((x8.alloc (.cells #[.slice none 0 0, .int .i64 0] 78)).alloc (.cells #[.pointer (some ⟨w'.heap.size, 0, none⟩)] 73)).alloc (.cells #[.slice A (r.length + 1) cap] 22)
      have y9 := (Boxed.new (w'.alloc (.cells #[.slice none 0 0, .int .i64 0] 78)) 73 (.pointer (some ⟨w'.heap.size, 0, none⟩))).alloc (.cells #[.slice A (r.length + 1) cap] 22)
      have yL := Boxed.new ((w'.alloc (.cells #[.slice none 0 0, .int .i64 0] 78)).alloc (.cells #[.pointer (some ⟨w'.heap.size, 0, none⟩)] 73)) 22 (.slice A (r.length + 1) cap)
      have hKw := (((Keeps.refl [] w').alloc (.cells #[.slice none 0 0, .int .i64 0] 78)).alloc (.cells #[.pointer (some ⟨w'.heap.size, 0, none⟩)] 73)).alloc (.cells #[.slice A (r.length + 1) cap] 22)
      have hW0 := isW_new w' w.heap.size hs7
      have hW1 := isW_keeps hW0 ((((Keeps.refl [] (w'.alloc (.cells #[.slice none 0 0, .int .i64 0] 78))).alloc (.cells #[.pointer (some ⟨w'.heap.size, 0, none⟩)] 73)).alloc (.cells #[.slice A (r.length + 1) cap] 22))) (fun k _ h => by simp at h)
      have hszW : (((w'.alloc (.cells #[.slice none 0 0, .int .i64 0] 78)).alloc (.cells #[.pointer (some ⟨w'.heap.size, 0, none⟩)] 73)).alloc (.cells #[.slice A (r.length + 1) cap] 22)).heap.size = w'.heap.size + 1 + 1 + 1 := by simp
      rw [World.size_alloc] at y9
      rw [World.size_alloc, World.size_alloc] at yL
      go_wp2_with fail
      refine (new_c _).mono ?_
      rintro e w2 ⟨rfl, rfl⟩
      go_wp2_with fail
      refine (numbers_c _ _ _ _).mono ?_
      rintro e w2 ⟨rfl, rfl⟩
      go_wp2_with fail
      have hbW : Below w.heap.size w (((w'.alloc (.cells #[.slice none 0 0, .int .i64 0] 78)).alloc (.cells #[.pointer (some ⟨w'.heap.size, 0, none⟩)] 73)).alloc (.cells #[.slice A (r.length + 1) cap] 22)) := hb7'.trans (hKw.to hs7 (by simp))
      have hkD2 := hKw.block hkD (by simp)
      generalize (((w'.alloc (.cells #[.slice none 0 0, .int .i64 0] 78)).alloc (.cells #[.pointer (some ⟨w'.heap.size, 0, none⟩)] 73)).alloc (.cells #[.slice A (r.length + 1) cap] 22)) = W0' at *
      have hseq := numbers1_tells (4 - 1) w.heap.size (w'.heap.size + 1 + 1) (by omega) [w'.heap.size] 5 A cap t0 v0 r w W0' rfl hbW yL (by simp; omega) (by decide) hA h0t (by omega) hris
      refine wpIn_wide.1 (loop_tells (n := 4) rfl (by omega) (gf := 54) (lb := #[.pointer (some ⟨w'.heap.size + 1 + 1, 0, none⟩)]) rfl trivial (enters_of Try.func54 (by kernel_rfl) rfl)
        hseq (Below.refl _ _) (fun _ => rfl) (fun _ h => by cases h) (fun h k => h.trans k) (fun W k o o' hk h hb => Spared.book (by omega) W k o o' hk h hb)
        (fun pre W => (∃ F, IsW w.heap.size w'.heap.size (pb a b pre) F W) ∧ Boxed W (w'.heap.size + 1) 73 (.pointer (some ⟨w'.heap.size, 0, none⟩)) ∧ Boxed W b7 3 (.int .i64 (a : Int)) ∧ Boxed W b8 3 (.int .i64 (b : Int)) ∧ W.heap[D]? = some (.deferred (some [])) ∧ Below w.heap.size w W) ?bears2 ?start2
        (fun x => { tmps := #[.slice A (r.length + 1) cap, undef, .string ⟨#[]⟩, .pointer (some ⟨w.heap.size, 0, none⟩), .pointer (some ⟨w.heap.size + 1, 0, none⟩), undef, undef, .pointer (some ⟨b7, 0, none⟩), .pointer (some ⟨b8, 0, none⟩), .pointer (some ⟨w'.heap.size + 1, 0, none⟩), .int .u64 (x.1 : Int), .int .u64 (x.2 : Int), .slice A (r.length + 1) cap, .func (.func 54) #[] #[.pointer (some ⟨w.heap.size + 1 + 1, 0, none⟩)], undef, undef, undef, undef, undef, undef, undef, undef, undef, undef, .slice (some ⟨g1, 0, none⟩) r.length cap1, .int .i64 (a : Int), .slice (some ⟨g2, 0, none⟩) r.length cap2, .int .i64 (b : Int), .pointer (some ⟨w'.heap.size, 0, none⟩), .slice A (r.length + 1) cap, .func (.func 54) #[] #[.pointer (some ⟨w'.heap.size + 1 + 1, 0, none⟩)], .int .u64 (x.1 : Int), .int .u64 (x.2 : Int), undef, undef, undef, undef, undef, undef, undef, undef, undef, undef, undef, undef, undef, undef, undef, undef, undef, undef, undef], defers := [] }) ?assign2 ?body2 ?done2)
      case bears2 =>
        rintro s X Y G ⟨⟨F, hw⟩, c9, c7, c8, hd, hbe⟩ hK hG
        refine ⟨⟨F, isW_keeps hw hK (fun k hk => ?_)⟩, box_keeps c9 hK (not_book c9 hG rfl), box_keeps c7 hK (not_book c7 hG rfl), box_keeps c8 hK (not_book c8 hG rfl), hK.block hd (fun hm => ?_), hbe.trans (hK.to (by have := hbe.size; omega) (fun f hf => by have := (hG f hf).1; omega))⟩
        · rcases (isW_cells hw k hk).2 with ⟨_, cs, hc⟩ | ⟨cs, hc⟩ <;> exact not_book hc hG rfl
        · have h1 := (hG D hm).1
          have h2 := lt_of_block hkD
          omega
      case start2 => exact ⟨⟨_, hW1⟩, y9, y7, y8, hkD2, hbW⟩
      case assign2 =>
        intro l x W K hK
        dsimp only [encP]
        gi_wp2
        exact hK
      case body2 =>
        rintro l pre x rest W hx ⟨⟨F, hw⟩, c9, c7, c8, hd, hbe⟩
        have hmem : x ∈ pairsF t0 v0 r := by rw [hx]; simp
        obtain ⟨m1, m2⟩ := List.of_mem_zip (show (x.1, x.2) ∈ (tsF t0 0 r).zip (vsF v0 r) from hmem)
        have hx1 := tsF_lt r t0 0 h0t ht40 (by omega) (by omega) hris x.1 m1
        have hx2 := vsF_lt r v0 x.2 m2
        have hlen : pre.length < r.length := by
          have h := congrArg List.length hx
          simp at h; omega
        have hpb := pb_len a b pre ha40 hb40
        have e1 : riceL (pb a b pre) x.1 (a : Int) = pb a b pre ++ code x.1 a := by
          unfold riceL; rw [if_pos (by unfold riceE; rw [if_neg (by omega)])]; simp
        have e2 : riceL (pb a b pre ++ code x.1 a) x.2 (b : Int) = pb a b (pre ++ [x]) := by
          rw [pb_snoc]; unfold riceL; rw [if_pos (by unfold riceE; rw [if_neg (by omega)])]; simp
        have hcl := code_le x.1 a ha40
        have hl2 : (pb a b pre ++ code x.1 a).length ≤ 4294967000 := by rw [List.length_append]; omega
        have R1 := rice_c w.heap.size w'.heap.size (pb a b pre) F x.1 (a : Int) W hx1 (by omega) hw
        rw [e1] at R1
        have R1 := Lib.hid R1
        have E2 := Lib.hid e2
        have hbs := hbe.size
        have k9 := c9.cell
        have k7 := c7.cell
        have k8 := c8.cell
        clear e1 e2 hcl m1 m2 hmem
        gi_wp2_with fail
        refine ⟨trivial, (CallsIn.inRound l (callsIn_wide.2 R1.out)).mono ?_⟩
        rintro e W1 ⟨rfl, F1, hw1, hK1, hF1⟩
        have out : ∀ (k : Nat) (t : TypeId) (v : Value), Boxed W k t v → t ≠ 78 → t ≠ 5 → k ∉ F := fun k t v hb h1 h2 hm => by
          rcases (isW_cells hw k hm).2 with ⟨_, cs, hc⟩ | ⟨cs, hc⟩
          · exact ne_type hb hc h1 rfl
          · exact ne_type hb hc h2 rfl
        have c9' := box_keeps c9 hK1 (out _ _ _ c9 (by decide) (by decide))
        have c7' := box_keeps c7 hK1 (out _ _ _ c7 (by decide) (by decide))
        have c8' := box_keeps c8 hK1 (out _ _ _ c8 (by decide) (by decide))
        have hd' := hK1.block hd (fun hm => by
          rcases (isW_cells hw _ hm).2 with ⟨_, cs, hc⟩ | ⟨cs, hc⟩
          · rw [hd] at hc; cases hc
          · rw [hd] at hc; cases hc)
        have k9' := c9'.cell
        have k8' := c8'.cell
        have R2 := rice_c w.heap.size w'.heap.size (pb a b pre ++ code x.1 a) F1 x.2 (b : Int) W1 hx2 hl2 hw1
        rw [E2.out] at R2
        have R2 := Lib.hid R2
        have HW := Lib.hid hw
        have H1 := Lib.hid (And.intro hK1 (And.intro hF1 (And.intro c9' (And.intro c7' (And.intro c8' (And.intro hd' hw1))))))
        clear hK1 hF1 c9' c7' c8' hd' hw1 hw c9 c7 c8 hd out k9 k7 k8 R1
        gi_wp2_with fail
        refine ⟨trivial, (CallsIn.inRound l (callsIn_wide.2 R2.out)).mono ?_⟩
        rintro e W2 ⟨rfl, F2, hw2, hK2, hF2⟩
        gi_wp2_with fail
        obtain ⟨hK1, hF1, c9', c7', c8', hd', hw1⟩ := H1.out
        have hK := hK1.trans hK2 hF1
        have hcs := isW_cells HW.out
        have out : ∀ (k : Nat) (t : TypeId) (v : Value), Boxed W1 k t v → t ≠ 78 → t ≠ 5 → k ∉ F1 := fun k t v hb h1 h2 hm => by
          rcases (isW_cells hw1 k hm).2 with ⟨_, cs, hc⟩ | ⟨cs, hc⟩
          · exact ne_type hb hc h1 rfl
          · exact ne_type hb hc h2 rfl
        refine ⟨Books.of_keeps hK (fun k hk _ => ?_), ⟨hK.to hbs (fun f hf => (hcs f hf).1), Spares.of_keeps hK (fun k hk => ?_)⟩, ⟨F2, hw2⟩, box_keeps c9' hK2 (out _ _ _ c9' (by decide) (by decide)), box_keeps c7' hK2 (out _ _ _ c7' (by decide) (by decide)), box_keeps c8' hK2 (out _ _ _ c8' (by decide) (by decide)), hK2.block hd' (fun hm => ?_), hbe.trans (hK.to hbs (fun f hf => (hcs f hf).1))⟩
        · rcases (hcs k hk).2 with ⟨_, _, h⟩ | ⟨_, h⟩ <;> exact book_cells h
        · rcases (hcs k hk).2 with ⟨h, _⟩ | ⟨cs, h⟩
          · exact .inl (by simp [h])
          · exact .inr (.inr ⟨cs, _, h⟩)
        · rcases (isW_cells hw1 _ hm).2 with ⟨_, cs, hc⟩ | ⟨cs, hc⟩
          · rw [hd'] at hc; cases hc
          · rw [hd'] at hc; cases hc
      case done2 =>
        rintro D2 W2' hD2 ⟨⟨F, hw⟩, c9, c7, c8, hd, hbe⟩ hKD2
        have k9 := c9.cell
        have k7 := c7.cell
        have k8 := c8.cell
        rw [pb_pairs] at hw
        have hlb : (pairB a b (tsF t0 0 r) (vsF v0 r)).length ≤ 4294967296 := by
          have h := pb_len a b (pairsF t0 v0 r) ha40 hb40
          rw [pb_pairs, hpl] at h; omega
        have ht : dTail t0 v0 r = UInt8.ofNat a :: UInt8.ofNat b :: packB (pairB a b (tsF t0 0 r) (vsF v0 r)) := by
          unfold dTail; rw [if_neg (by intro h; rw [h] at hr1; simp at hr1), ha, hbb]
        have wa : IntKind.u8.wrap (a : Int) = (a : Int) := by rw [IntKind.wrap_u8]; omega
        have wb : IntKind.u8.wrap (b : Int) = (b : Int) := by rw [IntKind.wrap_u8]; omega
        have HT := Lib.hid ht
        have HX := Lib.hid (And.intro hd (And.intro hbe hKD2))
        have HC := Lib.hid (And.intro c9 (And.intro c7 c8))
        have HL := Lib.hid hlb
        have hbs := hbe.size
        have h2l := packB_length (pairB a b (tsF t0 0 r) (vsF v0 r))
        have hsl : ¬ 9223372036854775807 < 2 + (packB (pairB a b (tsF t0 0 r) (vsF v0 r))).length := by omega
        clear ht hlb h2l hd hKD2 hbe
        go_wp2_with fail
        have HS := Lib.hid (fun (wx : World) (h : Below W2'.heap.size W2' wx) => (⟨h, (box_below HC.out.2.1 h (Nat.le_refl _)).cell, (box_below HC.out.2.2 h (Nat.le_refl _)).cell, (box_below HC.out.1 h (Nat.le_refl _)).cell⟩ : Below W2'.heap.size W2' wx ∧ wx.cell? ⟨b7, 0, none⟩ = some (.int .i64 (a : Int)) ∧ wx.cell? ⟨b8, 0, none⟩ = some (.int .i64 (b : Int)) ∧ wx.cell? ⟨w'.heap.size + 1, 0, none⟩ = some (.pointer (some ⟨w'.heap.size, 0, none⟩))))
        have HBY := Lib.hid (fun (wx : World) (h : Below W2'.heap.size W2' wx) => bytes_c w.heap.size w'.heap.size _ F wx HL.out (isW_keeps hw (Keeps.below (F := []) h) (fun k _ hm => by simp at hm)))
        clear hw c9 c7 c8 k9 k7 k8
        refine wp_mono (Q := OnlyN fun a' wx => ∃ tm, a' = { tmps := tm, defers := [{ target := .collected D2, args := #[] }, { target := .collected D, args := #[] }] } ∧ tm.getD 2 undef = .string (str (UInt8.ofNat a :: UInt8.ofNat b :: packB (pairB a b (tsF t0 0 r) (vsF v0 r)))) ∧ Below W2'.heap.size W2' wx) ?reg14 (only_imp ?rest14)
        case reg14 =>
          refine wp_region_held_drew (S := fun wx => Below W2'.heap.size W2' wx ∧ wx.cell? ⟨b7, 0, none⟩ = some (.int .i64 (a : Int)) ∧ wx.cell? ⟨b8, 0, none⟩ = some (.int .i64 (b : Int)) ∧ wx.cell? ⟨w'.heap.size + 1, 0, none⟩ = some (.pointer (some ⟨w'.heap.size, 0, none⟩))) (by kernel_rfl) (HS.out _ (Below.refl _ W2').drew) (fun hHeld => ?_)
          refine wpAnyH_gen (fun Wc hWc => ?_)
          rw [← hWc] at hHeld
          clear hWc
          refine held_w (i := 0) (d := some 41) (v := ?_) rfl (by kernel_rfl) (by kernel_rfl) (by kernel_rfl) (fun _ _ _ h => h) (by rfl) ?_ hHeld ?_
          rotate_left
          · intro w' hSw; obtain ⟨q0, q1, q2, q3⟩ := hSw; simp only [List.getElem?_toArray, List.getElem?_cons_zero, List.getElem?_cons_succ]; go_simp; try with_reducible rfl
          try simp only [Act.put, List.setIfInBounds_toArray, List.set_cons_zero, List.set_cons_succ]
          refine held_w (i := 1) (d := some 42) (v := ?_) rfl (by kernel_rfl) (by kernel_rfl) (by kernel_rfl) (fun _ _ _ h => h) (by rfl) ?_ hHeld ?_
          rotate_left
          · intro w' hSw; obtain ⟨q0, q1, q2, q3⟩ := hSw; simp only [List.getElem?_toArray, List.getElem?_cons_zero, List.getElem?_cons_succ]; go_simp; try with_reducible rfl
          try simp only [Act.put, List.setIfInBounds_toArray, List.set_cons_zero, List.set_cons_succ]
          refine held_w (i := 2) (d := some 43) (v := ?_) rfl (by kernel_rfl) (by kernel_rfl) (by kernel_rfl) (fun _ _ _ h => h) (by rfl) ?_ hHeld ?_
          rotate_left
          · intro w' hSw; obtain ⟨q0, q1, q2, q3⟩ := hSw; simp only [List.getElem?_toArray, List.getElem?_cons_zero, List.getElem?_cons_succ]; go_simp; try with_reducible rfl
          try simp only [Act.put, List.setIfInBounds_toArray, List.set_cons_zero, List.set_cons_succ]
          refine held_w (i := 3) (d := some 44) (v := ?_) rfl (by kernel_rfl) (by kernel_rfl) (by kernel_rfl) (fun _ _ _ h => h) (by rfl) ?_ hHeld ?_
          rotate_left
          · intro w' hSw; obtain ⟨q0, q1, q2, q3⟩ := hSw; simp only [List.getElem?_toArray, List.getElem?_cons_zero, List.getElem?_cons_succ]; go_simp; try with_reducible rfl
          try simp only [Act.put, List.setIfInBounds_toArray, List.set_cons_zero, List.set_cons_succ]
          refine held_w (i := 6) (d := some 47) (v := ?_) rfl (by kernel_rfl) (by kernel_rfl) (by kernel_rfl) (fun _ _ _ h => h) (by rfl) ?_ hHeld ?_
          rotate_left
          · intro w' hSw; obtain ⟨q0, q1, q2, q3⟩ := hSw; simp only [List.getElem?_toArray, List.getElem?_cons_zero, List.getElem?_cons_succ]; go_simp; try with_reducible rfl
          try simp only [Act.put, List.setIfInBounds_toArray, List.set_cons_zero, List.set_cons_succ]
          refine held_w (i := 7) (d := some 48) (v := ?_) rfl (by kernel_rfl) (by kernel_rfl) (by kernel_rfl) (fun _ _ _ h => h) (by rfl) ?_ hHeld ?_
          rotate_left
          · intro w' hSw; obtain ⟨q0, q1, q2, q3⟩ := hSw; simp only [List.getElem?_toArray, List.getElem?_cons_zero, List.getElem?_cons_succ]; go_simp; try with_reducible rfl
          try simp only [Act.put, List.setIfInBounds_toArray, List.set_cons_zero, List.set_cons_succ]
          refine held_w (i := 8) (d := some 49) (v := ?_) rfl (by kernel_rfl) (by kernel_rfl) (by kernel_rfl) (fun _ _ _ h => h) (by rfl) ?_ hHeld ?_
          rotate_left
          · intro w' hSw; obtain ⟨q0, q1, q2, q3⟩ := hSw; simp only [List.getElem?_toArray, List.getElem?_cons_zero, List.getElem?_cons_succ]; go_simp; try with_reducible rfl
          try simp only [Act.put, List.setIfInBounds_toArray, List.set_cons_zero, List.set_cons_succ]
          refine held_many (rs := [4, 9]) (by kernel_rfl) (by simp) ⟨?_, ?_, trivial⟩
          · refine ⟨by rfl, fun K hK => ?_⟩
            simp only [List.getElem?_toArray, List.getElem?_cons_zero, List.getElem?_cons_succ]
            go_simp
            have hcv := conv_two (P := Try.prog) 39 9 5 Try.underlying39 Try.underlying5 Try.underlying9 Wc (a : Int) (b : Int)
            refine hK.out _ _ (HS.out _ (hHeld.1.alloc hHeld.1.size _)) (fun hHeld => ?_)
            clear hK K
            try simp only [Act.put, List.setIfInBounds_toArray, List.set_cons_zero, List.set_cons_succ]
            refine held_many (rs := [5, 9]) (by kernel_rfl) (by simp) ⟨?_, ?_, trivial⟩
            · refine ⟨by rfl, fun K hK => ?_⟩
              simp only [List.getElem?_toArray, List.getElem?_cons_zero, List.getElem?_cons_succ]
              go_simp
              refine hK.out _ _ hHeld (fun hHeld => ?_)
              clear hK K
              try simp only [Act.put, List.setIfInBounds_toArray, List.set_cons_zero, List.set_cons_succ]
              refine held_c (i := 9) (by kernel_rfl) (by rfl) (fun K hK => ?_)
              simp only [List.getElem?_toArray, List.getElem?_cons_zero, List.getElem?_cons_succ]
              go_simp
              refine (HBY.out _ hHeld.1).mono ?_
              rintro e wx ⟨rfl, rfl⟩
              refine hK.out _ _ hHeld (fun hHeld => ?_)
              clear hK K
              try simp only [Act.put, List.setIfInBounds_toArray, List.set_cons_zero, List.set_cons_succ]
              refine held_w (i := 10) (d := some 51) (v := ?_) rfl (by kernel_rfl) (by kernel_rfl) (by kernel_rfl) (fun _ _ _ h => h) (by rfl) ?_ hHeld ?_
              rotate_left
              · intro w' hSw; obtain ⟨q0, q1, q2, q3⟩ := hSw; simp only [List.getElem?_toArray, List.getElem?_cons_zero, List.getElem?_cons_succ]; go_simp; try with_reducible rfl
              try simp only [Act.put, List.setIfInBounds_toArray, List.set_cons_zero, List.set_cons_succ]
              refine held_w (i := 11) (d := some 2) (v := ?_) rfl (by kernel_rfl) (by kernel_rfl) (by kernel_rfl) (fun _ _ _ h => h) (by rfl) ?_ hHeld ?_
              rotate_left
              · intro w' hSw; obtain ⟨q0, q1, q2, q3⟩ := hSw; simp only [List.getElem?_toArray, List.getElem?_cons_zero, List.getElem?_cons_succ]; go_simp; try with_reducible rfl
              try simp only [Act.put, List.setIfInBounds_toArray, List.set_cons_zero, List.set_cons_succ]
              refine wpAnyH_done (by kernel_rfl) ?_ _
              exact ⟨_, rfl, rfl, hHeld.1⟩
            · refine ⟨by rfl, fun K hK => ?_⟩
              simp only [List.getElem?_toArray, List.getElem?_cons_zero, List.getElem?_cons_succ]
              go_simp
              refine (HBY.out _ hHeld.1).mono ?_
              rintro e wx ⟨rfl, rfl⟩
              refine hK.out _ _ hHeld (fun hHeld => ?_)
              clear hK K
              try simp only [Act.put, List.setIfInBounds_toArray, List.set_cons_zero, List.set_cons_succ]
              refine held_c (i := 5) (by kernel_rfl) (by rfl) (fun K hK => ?_)
              simp only [List.getElem?_toArray, List.getElem?_cons_zero, List.getElem?_cons_succ]
              go_simp
              refine hK.out _ _ hHeld (fun hHeld => ?_)
              clear hK K
              try simp only [Act.put, List.setIfInBounds_toArray, List.set_cons_zero, List.set_cons_succ]
              refine held_w (i := 10) (d := some 51) (v := ?_) rfl (by kernel_rfl) (by kernel_rfl) (by kernel_rfl) (fun _ _ _ h => h) (by rfl) ?_ hHeld ?_
              rotate_left
              · intro w' hSw; obtain ⟨q0, q1, q2, q3⟩ := hSw; simp only [List.getElem?_toArray, List.getElem?_cons_zero, List.getElem?_cons_succ]; go_simp; try with_reducible rfl
              try simp only [Act.put, List.setIfInBounds_toArray, List.set_cons_zero, List.set_cons_succ]
              refine held_w (i := 11) (d := some 2) (v := ?_) rfl (by kernel_rfl) (by kernel_rfl) (by kernel_rfl) (fun _ _ _ h => h) (by rfl) ?_ hHeld ?_
              rotate_left
              · intro w' hSw; obtain ⟨q0, q1, q2, q3⟩ := hSw; simp only [List.getElem?_toArray, List.getElem?_cons_zero, List.getElem?_cons_succ]; go_simp; try with_reducible rfl
              try simp only [Act.put, List.setIfInBounds_toArray, List.set_cons_zero, List.set_cons_succ]
              refine wpAnyH_done (by kernel_rfl) ?_ _
              exact ⟨_, rfl, rfl, hHeld.1⟩
          · refine ⟨by rfl, fun K hK => ?_⟩
            simp only [List.getElem?_toArray, List.getElem?_cons_zero, List.getElem?_cons_succ]
            go_simp
            refine (HBY.out _ hHeld.1).mono ?_
            rintro e wx ⟨rfl, rfl⟩
            refine hK.out _ _ hHeld (fun hHeld => ?_)
            clear hK K
            try simp only [Act.put, List.setIfInBounds_toArray, List.set_cons_zero, List.set_cons_succ]
            refine held_c (i := 4) (by kernel_rfl) (by rfl) (fun K hK => ?_)
            simp only [List.getElem?_toArray, List.getElem?_cons_zero, List.getElem?_cons_succ]
            go_simp
            have hcv := conv_two (P := Try.prog) 39 9 5 Try.underlying39 Try.underlying5 Try.underlying9 Wc (a : Int) (b : Int)
            refine hK.out _ _ (HS.out _ (hHeld.1.alloc hHeld.1.size _)) (fun hHeld => ?_)
            clear hK K
            try simp only [Act.put, List.setIfInBounds_toArray, List.set_cons_zero, List.set_cons_succ]
            refine held_c (i := 5) (by kernel_rfl) (by rfl) (fun K hK => ?_)
            simp only [List.getElem?_toArray, List.getElem?_cons_zero, List.getElem?_cons_succ]
            go_simp
            refine hK.out _ _ hHeld (fun hHeld => ?_)
            clear hK K
            try simp only [Act.put, List.setIfInBounds_toArray, List.set_cons_zero, List.set_cons_succ]
            refine held_w (i := 10) (d := some 51) (v := ?_) rfl (by kernel_rfl) (by kernel_rfl) (by kernel_rfl) (fun _ _ _ h => h) (by rfl) ?_ hHeld ?_
            rotate_left
            · intro w' hSw; obtain ⟨q0, q1, q2, q3⟩ := hSw; simp only [List.getElem?_toArray, List.getElem?_cons_zero, List.getElem?_cons_succ]; go_simp; try with_reducible rfl
            try simp only [Act.put, List.setIfInBounds_toArray, List.set_cons_zero, List.set_cons_succ]
            refine held_w (i := 11) (d := some 2) (v := ?_) rfl (by kernel_rfl) (by kernel_rfl) (by kernel_rfl) (fun _ _ _ h => h) (by rfl) ?_ hHeld ?_
            rotate_left
            · intro w' hSw; obtain ⟨q0, q1, q2, q3⟩ := hSw; simp only [List.getElem?_toArray, List.getElem?_cons_zero, List.getElem?_cons_succ]; go_simp; try with_reducible rfl
            try simp only [Act.put, List.setIfInBounds_toArray, List.set_cons_zero, List.set_cons_succ]
            refine wpAnyH_done (by kernel_rfl) ?_ _
            exact ⟨_, rfl, rfl, hHeld.1⟩
        case rest14 =>
          rintro a' wx ⟨tm, rfl, htm, hbx⟩
          rw [← HT.out] at htm
          clear HBY HS
          go_wp2_with fail
          obtain ⟨hd, hbe, hK2⟩ := HX.out
          have k2 := (hbx.block D2 (lt_of_block hK2)).trans hK2
          have k1 := (hbx.block D (lt_of_block hd)).trans hd
          have hDD : D ≠ D2 := by have := lt_of_block hkD; omega
          have k1' : (wx.putObj D2 (.deferred none)).heap[D]? = some (.deferred (some [])) := (World.putObj_heap_other hDD).trans k1
          have hb2 : Below w.heap.size w wx := below2 hbe hbx hbe.size
          have hb3 := hb2.trans (belowK_b (w := w) (Nat.le_refl _) wx D2 _ (.deferred none) (by omega) k2 rfl rfl)
          have hb4 := hb3.trans (belowK_b (w := w) (Nat.le_refl _) _ D _ (.deferred none) (by omega) k1' rfl rfl)
          refine ⟨by simp, .inl ⟨_, _, rfl, run_takeDeferred k2, ?_⟩⟩
          refine ⟨by simp, .inl ⟨_, _, rfl, run_takeDeferred k1', ?_⟩⟩
          exact ⟨_, results_tmp rfl _ _ _, by rw [htm], hb4⟩
end Go.Proofs.Yteaelcimlmckjaa
