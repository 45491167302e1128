/-
  Texts of the same seat, one behind the other (merged; each says at its head what it is).
-/
import Derived.Test.YtdbifbgjbfnfmaaGreatDoorM16
import Derived.Test.YtdbifbgjbfnfmaaGreatDoorM17
import Derived.Test.YtdbifbgjbfnfmaaGreatDoorM13
import Derived.Sort.OwnSorted
import Derived.Test.YtdbifbgjbfnfmaaGreatDoorM14
import Derived.Test.YtdbifbgjbfnfmaaGreatDoorM06
/-
  Layer 7 (index): without, meant, Select, the program's.
-/
namespace Go.Proofs.YtdbifbgjbfnfmaaGreatDoor
open Go.RowKit Go.Deep
attribute [local go_sem] str_size str_append str_toList str_get str_extract
set_option linter.unusedVariables false
set_option linter.unusedSimpArgs false
/-- A row of slices of integers, as lists. -/
theorem lsAt_of {w : World} {A : Option Addr} {k cap B : Nat} {vs : List Value} {L : List (List Int)} (hrow : w.ownsRow B 32 1 (.slice A k cap) k vs) (hl : vs.length = L.length) (hk : k = L.length)
    (h : ∀ (j : Nat) v l, vs[j]? = some v → L[j]? = some l → l.length ≤ maxLen ∧ ∃ Ai ci, v = .slice Ai l.length ci ∧ IAt w Ai l.length ci l) : LsAt w A k cap L := by
  refine ⟨hk, ?_, fun i hi => ?_⟩
  · rcases hrow.2 with ⟨e, h0⟩ | ⟨g, c, cur, e, hg, hb, hc, _⟩
    · omega
    · injection e with e1 e2 e3
      omega
  · rcases hrow.2 with ⟨e, h0⟩ | ⟨g, c, cur, e, hg, hb, hc, _⟩
    · omega
    · injection e with e1 e2 e3
      subst e1
      have hv : i < vs.length := by omega
      obtain ⟨hm, Ai, ci, ev, hI⟩ := h i vs[i] L[i] (List.getElem?_eq_getElem hv) (List.getElem?_eq_getElem hi)
      have hcell := hrow.cells (g := g) rfl i vs[i] (List.getElem?_eq_getElem hv)
      rw [ev] at hcell
      refine ⟨_, Ai, ci, rfl, ?_, hcell, hI, hm⟩
      have : ((⟨g, 0, none⟩ : Addr).add i).block = g := by unfold Addr.add; split <;> rfl
      rw [this]; exact lt_of_block hb
/-- What the inner map has at a key. -/
theorem Cel.val {F : List Nat} {w : World} {P : Pst} {n v : Txt} {r : Nat} {D : DataW Value} (h : Cel F w P n v r (getS D v)) (hs : (getS D v).isSome = true) : idsP P n v ≠ [] ∧ ∃ c, valS D v = .slice (some ⟨r, 0, none⟩) (idsP P n v).length c ∧ NewI 0 (.slice (some ⟨r, 0, none⟩) (idsP P n v).length c) (idsP P n v) w := by
  unfold valS
  rcases h with ⟨h1, h2⟩ | ⟨h1, h2, c, h3, h4⟩
  · rw [h2] at hs; cases hs
  · exact ⟨h1, c, by rw [h3]; rfl, h4⟩
theorem Cel.some {F : List Nat} {w : World} {P : Pst} {n v : Txt} {r : Nat} {D : DataW Value} (h : Cel F w P n v r (getS D v)) : (getS D v).isSome = true ↔ idsP P n v ≠ [] := by
  rcases h with ⟨h1, h2⟩ | ⟨h1, h2, c, h3, h4⟩
  · simp [h1, h2]
  · simp [h1, h3]
/-- Series without a name, as a list. -/
noncomputable def noneW (X : Ix) (n : Txt) : List Int := (allI X.length).filter fun x => @decide (noneN X n x) (Classical.propDecidable _)
theorem mem_noneW {X : Ix} {n : Txt} (x : Int) : x ∈ noneW X n ↔ noneN X n x := by
  unfold noneW
  rw [List.mem_filter, @decide_eq_true_iff _ (Classical.propDecidable _)]
  exact ⟨fun h => h.2, fun h => ⟨mem_allI.2 (by obtain ⟨i, h1, h2, _⟩ := h; exact ⟨i, h1, h2⟩), h⟩⟩
/-- The inner map of a name, or none. -/
def Inner (w : World) (P : Pst) (n : Txt) (c : Nat) (m : Option Nat) (DI : DataW Value) : Prop :=
  ((m = none ∧ DI = .map []) ∨ ∃ bm, m = some bm ∧ MapS Tryz.prog 9 w bm c DI) ∧ Maps.size DI ≤ c ∧ ∀ v, ∃ F r, Cel F w P n v r (getS DI v)
theorem Inner.below {w w' : World} {P : Pst} {n : Txt} {c : Nat} {m : Option Nat} {DI : DataW Value} (h : Inner w P n c m DI) (hb : Below w.heap.size w w') : Inner w' P n c m DI := by
  refine ⟨h.1.imp (fun h => h) (fun ⟨bm, e, hm⟩ => ⟨bm, e, hm.below hb⟩), h.2.1, fun v => ?_⟩
  obtain ⟨F, r, hc⟩ := h.2.2 v
  exact ⟨F, r, hc.keeps (G := []) (Keeps.below hb) (by simp)⟩
theorem Inner.slices {w : World} {P : Pst} {n : Txt} {c : Nat} {m : Option Nat} {DI : DataW Value} (h : Inner w P n c m DI) : ∀ s v, getS DI s = some v → ∃ A n c, v = .slice A n c := fun s v hv => by
  obtain ⟨F, r, hc⟩ := h.2.2 s
  rcases hc with ⟨h1, h2⟩ | ⟨h1, h2, c, h3, h4⟩
  · rw [h2] at hv; cases hv
  · rw [h3] at hv; injection hv with hv; exact ⟨_, _, _, hv.symm⟩
/-- What a look-up of a name in the outer map gives. -/
theorem Hav.look {F : List Nat} {bo : Nat} {P : Pst} {c : Nat} {D : DataW Value} {ib : Txt → Nat} {rb : Txt → Txt → Nat} {w : World} (h : Hav F bo (hasN P) P c D ib rb w) (n : Txt) (hn : n.length ≤ maxLen) :
    ∃ m DI, Inner w P n c m DI ∧ (getS D n).getD (.map none) = .map m := by
  by_cases hh : hasN P n = true
  · obtain ⟨h1, h2, DI, h3, h4⟩ := h.inner n hh
    exact ⟨some (ib n), DI, ⟨.inr ⟨_, rfl, h3⟩, World.ownsMap.size_le h3, fun v => ⟨_, _, h4 v⟩⟩, by rw [h.get n, if_pos hh]; rfl⟩
  · refine ⟨none, .map [], ⟨.inl ⟨rfl, rfl⟩, by simp [Maps.size], fun v => ⟨[], 0, .inl ⟨?_, getS_empty v⟩⟩⟩, by rw [h.get n, if_neg hh]; rfl⟩
    exact Classical.byContradiction fun hne => hh (idsP_hasN hne)
set_option maxRecDepth 100000 in
set_option maxHeartbeats 1000000 in
theorem without_c (F : List Nat) (q : Nat) (X : Ix) (name : Txt) (w : World) (h : IsX F q X w) (hn : name.length ≤ 4096) :
    Calls Tryz.prog 39 #[.pointer (some ⟨q, 0, none⟩), .string (str name)] w fun e w' => (∃ wo A1 c1, e = .returned (.slice A1 wo.length c1) ∧ NewI 0 (.slice A1 wo.length c1) wo w' ∧ (∀ x, x ∈ wo ↔ noneN X name x) ∧ Up wo ∧ wo.length ≤ 2000) ∧ Below w.heap.size w w' := by
  have HX := Lib.hid h
  have hpl := h.good.plen
  have hX := h.good.few
  obtain ⟨B, cB, bi, bo, h1, h2, -, FH, D, ib, rb, hH⟩ := h.at
  have hc := blk_cell h1 2
  simp only [List.getElem?_toArray, List.getElem?_cons_succ, List.getElem?_cons_zero] at hc
  obtain ⟨m, DI, hI, hlg⟩ := hH.look name (by unfold maxLen; omega)
  have hlk := MapS.look (w := w) (e := 50) (z := .map none) false hH.outer Tryz.underlying9 Tryz.underlying52 (by kernel_rfl) name (by unfold maxLen; omega)
  rw [hlg] at hlk
  simp only [Bool.false_eq_true, if_false] at hlk
  have cc := Lib.hid (collected_c m _ DI w hI.1 hI.slices (by have := hI.2.1; omega))
  have HI := Lib.hid hI
  have ca := Lib.hid (fun W (hW : Below w.heap.size w W) => ixAll_c F q X W (h.below hW))
  clear h1 h2 h hI hH hlg
  go_enter Tryz.func39, Tryz.ntmps39
  go_wp2_with (first
    | (go_at_call 64; refine (mvalues_c _ _).mono ?_; rintro e w1 ⟨rfl, rfl⟩; dsimp only)
    | (go_at_call 63; refine cc.out.mono ?_; rintro e w2 ⟨⟨ss, A, c, rfl, hS, hR⟩, hb2⟩; have HR := Lib.hid (And.intro hS hR); clear hS hR; dsimp only)
    | (go_at_call 22; refine (ca.out _ hb2).mono ?_; rintro e w3 ⟨⟨A3, c3, rfl, hN3⟩, hb3⟩; have HN3 := Lib.hid hN3; clear hN3; dsimp only))
  have hls : LsAt w2 A ss.length c (ss.map (idsP (pstX X) name)) := lsAt_of HR.out.2 (by simp) (by simp) (fun j v l hv hl => by
    simp only [List.getElem?_map, Option.map_eq_some_iff] at hv hl
    obtain ⟨s, hs, rfl⟩ := hv
    obtain ⟨s', hs', rfl⟩ := hl
    obtain rfl : s = s' := by rw [hs] at hs'; injection hs'
    obtain ⟨F1, r, hcl⟩ := (HI.out.below hb2).2.2 s
    obtain ⟨k1, cx, k2, k3⟩ := hcl.val ((HR.out.1.2.1 s).1 (List.mem_of_getElem? hs))
    obtain ⟨Ai, ci, e, hI⟩ := NewI.at k3
    refine ⟨by have := idsP_len (pstX X) name s; unfold maxLen; omega, Ai, ci, ?_, hI⟩
    rw [k2]; exact e)
  have hlen : allLen (ss.map (idsP (pstX X) name)) ≤ 1600 := Nat.le_trans (allLen_ids _ _ HR.out.1.1) hpl
  have hss : ss.length ≤ 3200 := by have := HR.out.1.2.2; have := HI.out.2.1; omega
  have hU : ∀ l ∈ ss.map (idsP (pstX X) name), Up l := fun l hl => by obtain ⟨s, _, rfl⟩ := List.mem_map.1 hl; exact HX.out.good.up name s
  have cu := Lib.hid (fun W (hW : Below w2.heap.size w2 W) => union_c ss.length (ss.map (idsP (pstX X) name)) A ss.length c W (by simp) (by omega) (hls.below hW) hU (by omega))
  refine (cu.out _ hb3).mono ?_
  rintro e w4 ⟨⟨u, A4, c4, rfl, hR4, hU4⟩, hb4⟩
  have hul : u.length ≤ 1600 := Nat.le_trans hU4.2.2 hlen
  have hal := allI_len X.length
  have hI3 : IAt w4 A3 X.length c3 (allI X.length) := by
    obtain ⟨A', c', e, hI⟩ := NewI.at (HN3.out.below hb4)
    rw [allI_len] at e hI
    injection e with e1 e2 e3
    subst e1 e3
    exact hI
  have cn := Lib.hid (not_c A3 A4 X.length u.length c3 c4 (allI X.length) u w4 (by omega) (by omega) hI3 (Row.at hR4))
  have HU := Lib.hid (And.intro hU4 hul)
  clear hls hlen hss hU hU4 hR4 hI3 hul hal
  go_wp2_with (first
    | (go_at_call 65; refine cn.out.mono ?_; rintro e w5 ⟨⟨v, rfl, hN5⟩, hb5⟩; obtain ⟨A5, c5, rfl, -⟩ := hN5.at; have HN5 := Lib.hid hN5; clear hN5; dsimp only))
  go_ret
  have hup := allI_up X.length
  refine ⟨⟨_, A5, c5, rfl, HN5.out.mono (Nat.zero_le _), fun x => ?_, up_merge _ _ _ hup HU.out.1.1, ?_⟩, hb2.trans ((hb3.trans ((hb4.trans (hb5.mono hb4.size)).mono hb3.size)).mono hb2.size)⟩
  · refine without_mem HX.out.good (fun s hs => ?_) HU.out.1 hup (fun x => mem_allI) x
    obtain ⟨F1, r, hcl⟩ := HI.out.2.2 s
    exact (HR.out.1.2.1 s).2 (hcl.some.2 hs)
  · have h1 := len_merge fNot (allI X.length) u
    rw [allI_len] at h1
    have := HU.out.2
    omega
theorem walks_below {w w' : World} (h : Below w.heap.size w w') : KeepsWalks w w' := ⟨h.size, fun k o hk _ => (h.block k (lt_of_block hk)).trans hk⟩
theorem filter_snoc {α : Type} (p : α → Bool) (l : List α) (x : α) : (l ++ [x]).filter p = if p x = true then l.filter p ++ [x] else l.filter p := by
  rw [List.filter_append]
  cases h : p x <;> simp [h]
theorem lat_one (w : World) (a b : Txt) (ha : a.length ≤ 9223372036854775807) (hb : b.length ≤ 9223372036854775807) : LAt (w.alloc (.cells #[.string (str a), .string (str b)] 40)) (some ⟨w.heap.size, 0, none⟩) 1 [(a, b)] := by
  refine ⟨rfl, fun i hi => ?_⟩
  have hi0 : i = 0 := by simp at hi; omega
  subst hi0
  exact ⟨⟨ha, hb⟩, _, rfl, by simp [Addr.add], by simp [Addr.add], by simp [Addr.add]⟩
theorem key_short {X : Ix} (hG : Good X) {n s : Txt} (h : idsP (pstX X) n s ≠ []) : s.length ≤ 32 := by
  obtain ⟨x, hx⟩ := List.exists_mem_of_ne_nil _ h
  obtain ⟨j, rfl, hm⟩ := mem_idsP.1 hx
  obtain ⟨hj, hm⟩ := mem_pstX.1 hm
  exact (okL_32 (hG.ok _ (List.getElem_mem hj)) _ hm).2
set_option maxRecDepth 100000 in
set_option maxHeartbeats 2000000 in
theorem ixMeant_c (F : List Nat) (q : Nat) (X : Ix) (m : Mat) (S : Option Addr) (sc : Nat) (w : World) (h : IsX F q X w) (hm : SmallM m) (hS : StrsAt w S m.2.2.2.length m.2.2.2) :
    Calls Tryz.prog 24 #[.pointer (some ⟨q, 0, none⟩), .agg #[.int .i64 m.1, .string (str m.2.1), .string (str m.2.2.1), .slice S m.2.2.2.length sc]] w fun e w' => (∃ A1 c1, e = .returned (.slice A1 (meantM X m).length c1) ∧ NewI 0 (.slice A1 (meantM X m).length c1) (meantM X m) w') ∧ Below w.heap.size w w' := by
  have HX := Lib.hid h
  have hpl := h.good.plen
  have hX := h.good.few
  obtain ⟨B, cB, bi, bo, h1, h2, -, FH, D, ib, rb, hH⟩ := h.at
  have hc := blk_cell h1 2
  have hql := lt_of_block h1
  simp only [List.getElem?_toArray, List.getElem?_cons_succ, List.getElem?_cons_zero] at hc
  obtain ⟨mo, DI, hI, hlg⟩ := hH.look m.2.1 (by have := hm.1; unfold maxLen; omega)
  have hlk := fun (W : World) (hW : Below w.heap.size w W) => MapS.look (w := W) (e := 50) (z := .map none) false (hH.outer.below hW) Tryz.underlying9 Tryz.underlying52 (by kernel_rfl) m.2.1 (by have := hm.1; unfold maxLen; omega)
  rw [hlg] at hlk
  simp only [Bool.false_eq_true, if_false] at hlk
  have c1 := Lib.hid (fun W B len capB l (hW : Below w.heap.size w W) (hl : len ≤ 140737488355328) (hA : LAt W B len l) hz => one_c m S sc B len capB l W (by have := hm.2.2.1; omega) (hS.below hW) hl hA hz)
  have cw := Lib.hid (fun W (hW : Below w.heap.size w W) => without_c F q X m.2.1 W (h.below hW) (by have := hm.1; omega))
  have HI := Lib.hid hI
  have HL := Lib.hid hlk
  have HC := Lib.hid (fun (W : World) (hW : Below w.heap.size w W) => (hW.cell (p := ⟨q, 2, none⟩) hql).trans hc)
  obtain ⟨R, hR⟩ : ∃ R, meantM X m = R := ⟨_, rfl⟩
  have hf0 : ∀ fs : List Txt, (∀ s, idsP (pstX X) m.2.1 s ≠ [] → (s ∈ fs ↔ oneL m [(m.2.1, s)] = true)) → ∀ (wo : List Int), (∀ x, x ∈ wo ↔ noneN X m.2.1 x) → ∀ u, IsUnion (fs.map (idsP (pstX X) m.2.1) ++ if oneL m [] = true then [wo] else []) u → u = R := fun fs h1 wo h2 u h3 => by rw [← hR]; exact meant_union HX.out.good h1 h2 h3
  have HF := Lib.hid hf0
  have hn1 := hm.1
  have hone : ∀ s, oneL m [(m.2.1, s)] = oneL m [(m.2.1, s)] := fun _ => rfl
  obtain ⟨k1, n1, v1, s1⟩ := m
  simp only at c1 cw HI HL HF hR hn1 ⊢
  rw [hR]
  obtain ⟨ns, hns⟩ : ∃ ns, s1.length = ns := ⟨_, rfl⟩
  rw [hns] at c1 ⊢
  obtain ⟨P1, hP1⟩ : ∃ p : Txt → Bool, p = fun s => oneL (k1, n1, v1, s1) [(n1, s)] := ⟨_, rfl⟩
  obtain ⟨O0, hO0⟩ : ∃ o : Bool, oneL (k1, n1, v1, s1) [] = o := ⟨_, rfl⟩
  have HP1 := Lib.hid hP1
  have HO0 := Lib.hid hO0
  clear h1 h2 h hI hH hlg hlk hc hf0 hone hm hS hR hns hP1 hO0
  have d0 := blk_new w (.cells #[.int .i64 k1, .string (str n1), .string (str v1), .slice S ns sc] 57)
  have hb0 : Below w.heap.size w (w.alloc (.cells #[.int .i64 k1, .string (str n1), .string (str v1), .slice S ns sc] 57)) := (Below.refl _ w).alloc (Nat.le_refl _) _
  have hs0 : (w.alloc (.cells #[.int .i64 k1, .string (str n1), .string (str v1), .slice S ns sc] 57)).heap.size = w.heap.size + 1 := by simp
  go_enter Tryz.func24, Tryz.ntmps24
  go_wp2_with fail
  generalize w.alloc (.cells #[.int .i64 k1, .string (str n1), .string (str v1), .slice S ns sc] 57) = W0 at *
  have HD := Lib.hid (fun (W : World) (hW : Below (w.heap.size + 1) W0 W) => (hW.block w.heap.size (by omega)).trans d0)
  have S0 := And.intro (HC.out W0.drew hb0.drew) (And.intro (blk_cell (HD.out W0.drew ((Below.refl _ _).drew)) 1) (HL.out W0.drew hb0.drew))
  simp only [List.getElem?_toArray, List.getElem?_cons_succ, List.getElem?_cons_zero] at S0
  rcases HI.out.1 with ⟨rfl, rfl⟩ | ⟨bm, rfl, hM⟩
  · have hrg := run_range_nilMap (P := Tryz.prog) W0.drew 50 9 32 Tryz.underlying50
    refine wp_region_held_drew (S := fun W => W.cell? ⟨q, 2, none⟩ = some (.map (some bo)) ∧ W.cell? ⟨w.heap.size, 1, none⟩ = some (.string (str n1)) ∧ (Instr.lookup 52 (.map (some bo)) (.string (str n1)) false).run Tryz.prog W = .ok (.map none) W) (by kernel_rfl) S0 (fun hHeld => ?_)
    clear S0
    refine held_w (i := 0) (d := some 8) (v := ?_) rfl (by kernel_rfl) (by kernel_rfl) (by kernel_rfl) (fun _ _ _ h => h) (by rfl) ?_ hHeld ?_
    rotate_left
    · intro w' hSw; obtain ⟨q0, q1, q2⟩ := hSw; simp only [List.getElem?_toArray, List.getElem?_cons_zero, List.getElem?_cons_succ]; go_simp; try with_reducible rfl
    try simp only [Act.put, List.setIfInBounds_toArray, List.set_cons_zero, List.set_cons_succ]
    refine held_w (i := 1) (d := some 9) (v := ?_) rfl (by kernel_rfl) (by kernel_rfl) (by kernel_rfl) (fun _ _ _ h => h) (by rfl) ?_ hHeld ?_
    rotate_left
    · intro w' hSw; obtain ⟨q0, q1, q2⟩ := hSw; simp only [List.getElem?_toArray, List.getElem?_cons_zero, List.getElem?_cons_succ]; go_simp; try with_reducible rfl
    try simp only [Act.put, List.setIfInBounds_toArray, List.set_cons_zero, List.set_cons_succ]
    refine held_w (i := 2) (d := some 10) (v := ?_) rfl (by kernel_rfl) (by kernel_rfl) (by kernel_rfl) (fun _ _ _ h => h) (by rfl) ?_ hHeld ?_
    rotate_left
    · intro w' hSw; obtain ⟨q0, q1, q2⟩ := hSw; simp only [List.getElem?_toArray, List.getElem?_cons_zero, List.getElem?_cons_succ]; go_simp; try with_reducible rfl
    try simp only [Act.put, List.setIfInBounds_toArray, List.set_cons_zero, List.set_cons_succ]
    refine held_w (i := 3) (d := some 11) (v := ?_) rfl (by kernel_rfl) (by kernel_rfl) (by kernel_rfl) (fun _ _ _ h => h) (by rfl) ?_ hHeld ?_
    rotate_left
    · intro w' hSw; obtain ⟨q0, q1, q2⟩ := hSw; simp only [List.getElem?_toArray, List.getElem?_cons_zero, List.getElem?_cons_succ]; go_simp; try with_reducible rfl
    try simp only [Act.put, List.setIfInBounds_toArray, List.set_cons_zero, List.set_cons_succ]
    refine held_w (i := 4) (d := some 12) (v := ?_) rfl (by kernel_rfl) (by kernel_rfl) (by kernel_rfl) (fun _ _ _ h => h) (by rfl) ?_ hHeld ?_
    rotate_left
    · intro w' hSw; obtain ⟨q0, q1, q2⟩ := hSw; simp only [List.getElem?_toArray, List.getElem?_cons_zero, List.getElem?_cons_succ]; go_simp; try with_reducible rfl
    try simp only [Act.put, List.setIfInBounds_toArray, List.set_cons_zero, List.set_cons_succ]
    refine held_w (i := 5) (d := some 13) (v := ?_) rfl (by kernel_rfl) (by kernel_rfl) (by kernel_rfl) (fun _ _ _ h => h) (by rfl) ?_ hHeld ?_
    rotate_left
    · intro w' hSw; obtain ⟨q0, q1, q2⟩ := hSw; simp only [List.getElem?_toArray, List.getElem?_cons_zero, List.getElem?_cons_succ]; go_simp; try with_reducible rfl
    try simp only [Act.put, List.setIfInBounds_toArray, List.set_cons_zero, List.set_cons_succ]
    refine held_w (i := 6) (d := some 14) (v := ?_) rfl (by kernel_rfl) (by kernel_rfl) (by kernel_rfl) (fun _ _ _ h => h) (by rfl) ?_ hHeld ?_
    rotate_left
    · intro w' hSw; obtain ⟨q0, q1, q2⟩ := hSw; simp only [List.getElem?_toArray, List.getElem?_cons_zero, List.getElem?_cons_succ]; go_simp; try with_reducible rfl
    try simp only [Act.put, List.setIfInBounds_toArray, List.set_cons_zero, List.set_cons_succ]
    refine held_c (i := 7) (by kernel_rfl) (by rfl) (fun K hK => ?_)
    simp only [List.getElem?_toArray, List.getElem?_cons_zero, List.getElem?_cons_succ]
    go_simp
    have hb1 : Below w.heap.size w (W0.drew.alloc (.mapIter none 0 #[] 0)) := (hb0.drew).alloc (by have := hb0.size; simp; omega) _
    have hb01 : Below (w.heap.size + 1) W0 (W0.drew.alloc (.mapIter none 0 #[] 0)) := ((Below.refl _ W0).drew).alloc (by simp; omega) _
    have e1 := blk_cell (HD.out _ hb01) 1
    simp only [List.getElem?_toArray, List.getElem?_cons_succ, List.getElem?_cons_zero] at e1
    refine hK.out _ _ ⟨HC.out _ hb1, e1, HL.out _ hb1⟩ (fun hHeld => ?_)
    clear hK K e1
    try simp only [Act.put, List.setIfInBounds_toArray, List.set_cons_zero, List.set_cons_succ]
    refine wpAnyH_done (by kernel_rfl) ?_ _
    skip
    go_wp2_with fail
    have hnx : ∀ ty, (Instr.next (.pointer (some ⟨w.heap.size + 1, 0, none⟩)) false ty).run Tryz.prog ((W0.alloc (.mapIter none 0 #[] 0)).drew) = .ok (.tuple #[.bool false]) ((W0.alloc (.mapIter none 0 #[] 0)).drew) := fun ty => by rw [← hs0]; exact run_next_nilMap W0.drew ty 0 0 #[]
    have hb : Below w.heap.size w ((W0.alloc (.mapIter none 0 #[] 0)).drew) := hb1
    have hbb : Below (w.heap.size + 1) W0 ((W0.alloc (.mapIter none 0 #[] 0)).drew) := hb01
    have hs1w : w.heap.size + 1 ≤ ((W0.alloc (.mapIter none 0 #[] 0)).drew).heap.size := by simp; omega
    have hW0 : W0.drew.heap.size = W0.heap.size := rfl
    generalize (W0.alloc (.mapIter none 0 #[] 0)).drew = wr at *
    have HIv := Lib.hid (fun (W : World) (hW : Below w.heap.size w W) => HI.out.below hW)
    obtain ⟨i0, hi0, hz0, hz1, hz2⟩ := info_parts lists_info
    have HO : Hid (wr.ownsRow (w.heap.size + 1) 32 1 (.slice none 0 0) 0 (([] : List Txt).map (valS (.map [])))) := ⟨rfl, .inl ⟨rfl, rfl⟩⟩
    have HFS : Hid (([] : List Txt).Nodup ∧ (∀ s ∈ ([] : List Txt), (getS (.map []) s).isSome = true) ∧ (∀ s, idsP (pstX X) n1 s ≠ [] → (s ∈ ([] : List Txt) ↔ oneL (k1, n1, v1, s1) [(n1, s)] = true)) ∧ ([] : List Txt).length ≤ 3200) := by
      refine ⟨List.nodup_nil, by simp, fun s hs => ?_, by simp⟩
      obtain ⟨F1, r, hcl⟩ := HI.out.2.2 s
      have := hcl.some.2 hs
      rw [getS_empty] at this
      cases this
    clear hHeld d0 hs0 hb0 hb1 hb01 HL hrg hW0
    refine wp_loop_rounds 1 ?_
    rw [rounds_succ]
    have hq0 := HD.out wr hbb
    have x0 := blk_cell hq0 0
    have x1 := blk_cell hq0 1
    have x2 := blk_cell hq0 2
    have x3 := blk_cell hq0 3
    simp only [List.getElem?_toArray, List.getElem?_cons_succ, List.getElem?_cons_zero] at x0 x1 x2 x3
    have hfl : ([] : List Txt).length = 0 := rfl
    have hls : ∀ W A1 c1 (wo : List Int) (vs : List Value), Below w.heap.size w W → (∀ v ∈ vs, ∃ Ai ci, v = .slice Ai wo.length ci ∧ IAt W Ai wo.length ci wo) → wo.length ≤ 2000 → vs.length ≤ 1 → W.ownsRow (w.heap.size + 1) 32 1 (.slice A1 (0 + vs.length) c1) (0 + vs.length) (([] : List Txt).map (valS (.map [])) ++ vs) → LsAt W A1 (0 + vs.length) c1 (([] : List Txt).map (idsP (pstX X) n1) ++ vs.map (fun _ => wo)) := fun W A1 c1 wo vs hW hvs hwl hv1 hrow => by
      refine lsAt_of hrow (by simp) (by simp [hfl]) (fun j v l hv hl => ?_)
      rcases Nat.lt_or_ge j ([] : List Txt).length with hj | hj
      · rw [List.getElem?_append_left (by simp at hj)] at hv hl
        simp only [List.getElem?_map, Option.map_eq_some_iff] at hv hl
        obtain ⟨s, hs, rfl⟩ := hv
        obtain ⟨s', hs', rfl⟩ := hl
        obtain rfl : s = s' := by rw [hs] at hs'; injection hs'
        obtain ⟨F1, r, hcl⟩ := (HIv.out W hW).2.2 s
        obtain ⟨k1, cx, k2, k3⟩ := hcl.val (HFS.out.2.1 s (List.mem_of_getElem? hs))
        obtain ⟨Ai, ci, e, hI⟩ := NewI.at k3
        refine ⟨by have := idsP_len (pstX X) n1 s; unfold maxLen; omega, Ai, ci, ?_, hI⟩
        rw [k2]; exact e
      · rw [List.getElem?_append_right (by simp)] at hv hl
        simp only [List.getElem?_map, Option.map_eq_some_iff] at hl
        obtain ⟨_, _, rfl⟩ := hl
        obtain ⟨Ai, ci, e, hI⟩ := hvs v (List.mem_of_getElem? hv)
        exact ⟨by unfold maxLen; omega, Ai, ci, e, hI⟩
    have HLS := Lib.hid hls
    have hlen : allLen (([] : List Txt).map (idsP (pstX X) n1)) ≤ 1600 := Nat.le_trans (allLen_ids _ _ HFS.out.1) hpl
    have hU : ∀ l ∈ ([] : List Txt).map (idsP (pstX X) n1), Up l := fun l hl => by obtain ⟨s, _, rfl⟩ := List.mem_map.1 hl; exact HX.out.good.up n1 s
    have HU := Lib.hid (And.intro hlen hU)
    have HFL := Lib.hid hfl
    clear hls hlen hU hq0
    cases O0 with
    | false =>
      go_wp2_with (first
        | (go_at_call 38; refine (c1.out wr none 0 0 [] hb (by omega) (LAt.nil _ _) (by simp)).mono ?_; rintro e w2 ⟨rfl, hb2⟩; rw [HO0.out]; dsimp only))
      have hb3 := below2 hb hb2 hb.size
      have hl2 := HLS.out w2 none 0 [] [] hb3 (by simp) (by simp) (by simp) (by simpa using (Keeps.below (F := []) hb2).row HO.out (by simp))
      have cu := union_c 0 (([] : List Txt).map (idsP (pstX X) n1)) none 0 0 w2 (by simp) (by omega) (by simpa using hl2) HU.out.2 (by have := HU.out.1; omega)
      refine cu.mono ?_
      rintro e w4 ⟨⟨u, A4, c4, rfl, hR4, hU4⟩, hb4⟩
      have hu := HF.out ([] : List Txt) HFS.out.2.2.1 (noneW X n1) (fun x => mem_noneW x) u (by rw [HO0.out]; simpa using hU4)
      subst hu
      have HR4 := Lib.hid hR4
      clear hl2 cu hR4 hU4
      go_wp2_with fail
      go_ret
      exact ⟨⟨A4, c4, rfl, HR4.out⟩, below2 hb3 hb4 hb3.size⟩
    | true =>
      go_wp2_with (first
        | (go_at_call 38; refine (c1.out wr none 0 0 [] hb (by omega) (LAt.nil _ _) (by simp)).mono ?_; rintro e w2 ⟨rfl, hb2⟩; rw [HO0.out]; have hq2 := HD.out w2 (hbb.trans (hb2.mono (by have := hbb.size; have := hb.size; omega))); have y1 := blk_cell hq2 1; simp only [List.getElem?_toArray, List.getElem?_cons_succ, List.getElem?_cons_zero] at y1; have hb3 := below2 hb hb2 hb.size; clear hq2; dsimp only)
        | (go_at_call 39; refine (cw.out w2 hb3).mono ?_; rintro e w3 ⟨⟨wo, Aw, cx, rfl, hNw, hw1, hw2, hw3⟩, hb4⟩; have HW := Lib.hid (And.intro hNw (And.intro hw1 (And.intro hw2 hw3))); have HO3 := Lib.hid ((Keeps.below (F := []) hb4).row ((Keeps.below (F := []) hb2).row HO.out (by simp)) (by simp)); have hb5 := below2 hb3 hb4 hb3.size; have hs5 := hb5.size; have hs6 : w.heap.size + 1 ≤ w3.heap.size := Nat.le_trans hs1w (Nat.le_trans hb2.size hb4.size); clear hNw hw1 hw2 hw3; dsimp only)
        | (at_builtin; refine wpList_append_own_at _ rfl _ _ 81 rfl (w.heap.size + 1) 32 i0 (.slice none 0 0) 1 24 Tryz.underlying81 hi0 hz0 hz1 hz2 rfl (by decide) (.slice none 0 0) 0 (([] : List Txt).map (valS (.map []))) rfl (HO3.out.alloc _) ⟨w3.heap.size, 0, none⟩ 1 1 [.slice Aw wo.length cx] rfl rfl (cell_one_new _ _ _) (by intro u hu; simp at hu; subst hu; rfl) (by unfold maxLen; omega) (by omega) (by simp; omega) ?_; intro v4 w4 hown4 hg4 _ _; have hg4 : (w3.alloc (.cells #[.slice Aw wo.length cx] 32)).grownBy w4 (Value.slice none 0 0).ownBlock := hg4; obtain ⟨A4, c4, rfl⟩ := row_slice hown4; have hb6 : Below w.heap.size w w4 := (hb5.alloc hs5 _).grown hg4 (by simp; omega) (fun k hk => by have := (HO3.out.lt k hk).1; omega); have hb7 : Below w3.heap.size w3 w4 ∨ True := .inr trivial; have HK6 := Lib.hid (((Keeps.refl (Value.slice none 0 0).ownBlock.toList w3).alloc (.cells #[.slice Aw wo.length cx] 32)).grown hg4 (fun k hk => by left; simp [hk])); have HO4 := Lib.hid hown4; clear hown4 hg4))
      have hN4 := HW.out.1.keeps HK6.out (fun k hk hm => by
        simp only [Option.mem_toList] at hm
        obtain ⟨cs, hcs⟩ := row_block HO3.out hm
        exact row_apart HW.out.1.own hcs (by decide) k hk rfl)
      obtain ⟨Ai, ci, eI, hI4⟩ := NewI.at hN4
      have hl4 := HLS.out w4 A4 c4 wo [.slice Aw wo.length cx] hb6 (fun v hv => by simp at hv; subst hv; exact ⟨Ai, ci, eI, hI4⟩) HW.out.2.2.2 (by simp) HO4.out
      have cu := union_c (0 + 1) (([] : List Txt).map (idsP (pstX X) n1) ++ [wo]) A4 (0 + 1) c4 w4 (by simp) (by omega) hl4 (fun l hl => by
        rcases List.mem_append.1 hl with hl | hl
        · exact HU.out.2 l hl
        · simp at hl; subst hl; exact HW.out.2.2.1) (by
          rw [allLen_append]
          have h1 := HU.out.1
          have h2 : allLen [wo] = wo.length := by simp [allLen]
          have h3 := HW.out.2.2.2
          omega)
      refine cu.mono ?_
      rintro e w5 ⟨⟨u, A5, c5, rfl, hR5, hU5⟩, hb8⟩
      have hu := HF.out ([] : List Txt) HFS.out.2.2.1 wo HW.out.2.1 u (by rw [HO0.out]; simpa using hU5)
      subst hu
      have HR5 := Lib.hid hR5
      clear hl4 cu hR5 hU5 hN4 hI4 eI
      go_wp2_with fail
      go_ret
      exact ⟨⟨A5, c5, rfl, HR5.out⟩, below2 hb6 hb8 hb6.size⟩
  · have hMb := Lib.hid (hM.below hb0)
    refine wp_region_held_drew (S := fun W => W.cell? ⟨q, 2, none⟩ = some (.map (some bo)) ∧ W.cell? ⟨w.heap.size, 1, none⟩ = some (.string (str n1)) ∧ (Instr.lookup 52 (.map (some bo)) (.string (str n1)) false).run Tryz.prog W = .ok (.map (some bm)) W) (by kernel_rfl) S0 (fun hHeld => ?_)
    clear S0 hM
    refine held_w (i := 0) (d := some 8) (v := ?_) rfl (by kernel_rfl) (by kernel_rfl) (by kernel_rfl) (fun _ _ _ h => h) (by rfl) ?_ hHeld ?_
    rotate_left
    · intro w' hSw; obtain ⟨q0, q1, q2⟩ := hSw; simp only [List.getElem?_toArray, List.getElem?_cons_zero, List.getElem?_cons_succ]; go_simp; try with_reducible rfl
    try simp only [Act.put, List.setIfInBounds_toArray, List.set_cons_zero, List.set_cons_succ]
    refine held_w (i := 1) (d := some 9) (v := ?_) rfl (by kernel_rfl) (by kernel_rfl) (by kernel_rfl) (fun _ _ _ h => h) (by rfl) ?_ hHeld ?_
    rotate_left
    · intro w' hSw; obtain ⟨q0, q1, q2⟩ := hSw; simp only [List.getElem?_toArray, List.getElem?_cons_zero, List.getElem?_cons_succ]; go_simp; try with_reducible rfl
    try simp only [Act.put, List.setIfInBounds_toArray, List.set_cons_zero, List.set_cons_succ]
    refine held_w (i := 2) (d := some 10) (v := ?_) rfl (by kernel_rfl) (by kernel_rfl) (by kernel_rfl) (fun _ _ _ h => h) (by rfl) ?_ hHeld ?_
    rotate_left
    · intro w' hSw; obtain ⟨q0, q1, q2⟩ := hSw; simp only [List.getElem?_toArray, List.getElem?_cons_zero, List.getElem?_cons_succ]; go_simp; try with_reducible rfl
    try simp only [Act.put, List.setIfInBounds_toArray, List.set_cons_zero, List.set_cons_succ]
    refine held_w (i := 3) (d := some 11) (v := ?_) rfl (by kernel_rfl) (by kernel_rfl) (by kernel_rfl) (fun _ _ _ h => h) (by rfl) ?_ hHeld ?_
    rotate_left
    · intro w' hSw; obtain ⟨q0, q1, q2⟩ := hSw; simp only [List.getElem?_toArray, List.getElem?_cons_zero, List.getElem?_cons_succ]; go_simp; try with_reducible rfl
    try simp only [Act.put, List.setIfInBounds_toArray, List.set_cons_zero, List.set_cons_succ]
    refine held_w (i := 4) (d := some 12) (v := ?_) rfl (by kernel_rfl) (by kernel_rfl) (by kernel_rfl) (fun _ _ _ h => h) (by rfl) ?_ hHeld ?_
    rotate_left
    · intro w' hSw; obtain ⟨q0, q1, q2⟩ := hSw; simp only [List.getElem?_toArray, List.getElem?_cons_zero, List.getElem?_cons_succ]; go_simp; try with_reducible rfl
    try simp only [Act.put, List.setIfInBounds_toArray, List.set_cons_zero, List.set_cons_succ]
    refine held_w (i := 5) (d := some 13) (v := ?_) rfl (by kernel_rfl) (by kernel_rfl) (by kernel_rfl) (fun _ _ _ h => h) (by rfl) ?_ hHeld ?_
    rotate_left
    · intro w' hSw; obtain ⟨q0, q1, q2⟩ := hSw; simp only [List.getElem?_toArray, List.getElem?_cons_zero, List.getElem?_cons_succ]; go_simp; try with_reducible rfl
    try simp only [Act.put, List.setIfInBounds_toArray, List.set_cons_zero, List.set_cons_succ]
    refine held_w (i := 6) (d := some 14) (v := ?_) rfl (by kernel_rfl) (by kernel_rfl) (by kernel_rfl) (fun _ _ _ h => h) (by rfl) ?_ hHeld ?_
    rotate_left
    · intro w' hSw; obtain ⟨q0, q1, q2⟩ := hSw; simp only [List.getElem?_toArray, List.getElem?_cons_zero, List.getElem?_cons_succ]; go_simp; try with_reducible rfl
    try simp only [Act.put, List.setIfInBounds_toArray, List.set_cons_zero, List.set_cons_succ]
    refine held_c (i := 7) (by kernel_rfl) (by rfl) (fun K hK => ?_)
    simp only [List.getElem?_toArray, List.getElem?_cons_zero, List.getElem?_cons_succ]
    refine wp_range _ (.tmp 14) 50 rfl 9 32 Tryz.underlying9 Tryz.underlying50 bm _ DI rfl hMb.out ?_
    intro w1 hrg1 hg1 hs1
    have hb1 : Below w.heap.size w w1 := (hb0.drew).grown hg1 (by have := hb0.size; simp; omega) (fun k hk => by cases hk)
    have hb01 : Below (w.heap.size + 1) W0 w1 := ((Below.refl _ W0).drew).grown hg1 (by simp; omega) (fun k hk => by cases hk)
    have e1 := blk_cell (HD.out w1 hb01) 1
    simp only [List.getElem?_toArray, List.getElem?_cons_succ, List.getElem?_cons_zero] at e1
    refine hK.out _ _ ⟨HC.out w1 hb1, e1, HL.out w1 hb1⟩ (fun hHeld => ?_)
    have hrg1 : w1.ranges Tryz.prog 9 anyE bm (w.heap.size + 1) (2 * (pstX X).length) DI (Maps.has DI) (Maps.size DI) := by
      have e : W0.drew.heap.size = w.heap.size + 1 := hs0
      rw [e] at hrg1; exact hrg1
    have HRG := Lib.hid hrg1
    clear hK K hrg1 hg1 e1 hs1
    try simp only [Act.put, List.setIfInBounds_toArray, List.set_cons_zero, List.set_cons_succ]
    refine wpAnyH_done (by kernel_rfl) ?_ _
    skip
    go_wp2_with fail
    rw [show W0.drew.heap.size = w.heap.size + 1 from hs0]
    have HB1 := Lib.hid (And.intro hb1 hb01)
    have HIv := Lib.hid (fun (W : World) (hW : Below w.heap.size w W) => HI.out.below hW)
    obtain ⟨i0, hi0, hz0, hz1, hz2⟩ := info_parts lists_info
    clear hHeld d0 hs0 hb1 hb01 HL
    go_loopw [5] (fun v wr => ∃ (left : Lit → Bool) (cnt : Nat) (ss : List Txt) (A1 : Option Addr) (cap1 : Nat), v = .slice A1 (ss.filter P1).length cap1 ∧ Hid (wr.ranges Tryz.prog 9 anyE bm (w.heap.size + 1) (2 * (pstX X).length) DI left cnt ∧ Coll DI left ss ∧ ss.length + cnt ≤ Maps.size DI) ∧
      Hid (wr.ownsRow (w.heap.size + 1) 32 1 (.slice A1 (ss.filter P1).length cap1) (ss.filter P1).length ((ss.filter P1).map (valS DI))) ∧ Below w.heap.size w wr ∧ Below (w.heap.size + 1) W0 wr) (fun _ wr => wr.rangeLeft bm (w.heap.size + 1))
    case atStart => exact ⟨_, _, [], none, 0, rfl, ⟨HRG.out, Coll.start DI, by simp⟩, ⟨rfl, .inl ⟨rfl, rfl⟩⟩, HB1.out.1, HB1.out.2⟩
    case round =>
      obtain ⟨left, cnt, ss, A1, cap1, rfl, HR, HO, hb, hbb⟩ := hrel
      have hbs := hb.size
      go_wp2_with (first | (at_next; refine wpList_next_s _ rfl (.tmp 15) rfl 9 Tryz.underlying9 bm (w.heap.size + 1) (2 * (pstX X).length) DI left cnt rfl HR.out.1 ?_ ?_))
      case refine_1 =>
        intro h0 hl0
        have hal := HR.out.2.1.all hl0
        obtain ⟨fs, hfs⟩ : ∃ x, ss.filter P1 = x := ⟨_, rfl⟩
        have HFS : Hid (fs.Nodup ∧ (∀ s ∈ fs, (getS DI s).isSome = true) ∧ (∀ s, idsP (pstX X) n1 s ≠ [] → (s ∈ fs ↔ oneL (k1, n1, v1, s1) [(n1, s)] = true)) ∧ fs.length ≤ 3200) := by
          show _ ∧ _
          rw [← hfs]
          refine ⟨hal.1.filter _, fun s hs => (hal.2 s).1 (List.mem_filter.1 hs).1, fun s hs => ?_, ?_⟩
          · obtain ⟨F1, r, hcl⟩ := HI.out.2.2 s
            rw [List.mem_filter, hal.2 s, HP1.out]
            exact ⟨fun h => h.2, fun h => ⟨hcl.some.2 hs, h⟩⟩
          · have h1 := List.length_filter_le P1 ss
            have h2 := HR.out.2.2
            have h3 := HI.out.2.1
            omega
        rw [hfs] at HO ⊢
        have hs1w : w.heap.size + 1 ≤ wr.heap.size := Nat.le_of_lt (World.ranges.lt HR.out.1)
        clear hal hfs HR
        have hq0 := HD.out wr hbb
        have x0 := blk_cell hq0 0
        have x1 := blk_cell hq0 1
        have x2 := blk_cell hq0 2
        have x3 := blk_cell hq0 3
        simp only [List.getElem?_toArray, List.getElem?_cons_succ, List.getElem?_cons_zero] at x0 x1 x2 x3
        obtain ⟨fl, hfl⟩ : ∃ n, fs.length = n := ⟨_, rfl⟩
        have hfl3 : fl ≤ 3200 := by rw [← hfl]; exact HFS.out.2.2.2
        have hls : ∀ W A1 c1 (wo : List Int) (vs : List Value), Below w.heap.size w W → (∀ v ∈ vs, ∃ Ai ci, v = .slice Ai wo.length ci ∧ IAt W Ai wo.length ci wo) → wo.length ≤ 2000 → vs.length ≤ 1 → W.ownsRow (w.heap.size + 1) 32 1 (.slice A1 (fl + vs.length) c1) (fl + vs.length) (fs.map (valS DI) ++ vs) → LsAt W A1 (fl + vs.length) c1 (fs.map (idsP (pstX X) n1) ++ vs.map (fun _ => wo)) := fun W A1 c1 wo vs hW hvs hwl hv1 hrow => by
          refine lsAt_of hrow (by simp) (by simp [hfl]) (fun j v l hv hl => ?_)
          rcases Nat.lt_or_ge j fs.length with hj | hj
          · rw [List.getElem?_append_left (by simpa using hj)] at hv hl
            simp only [List.getElem?_map, Option.map_eq_some_iff] at hv hl
            obtain ⟨s, hs, rfl⟩ := hv
            obtain ⟨s', hs', rfl⟩ := hl
            obtain rfl : s = s' := by rw [hs] at hs'; injection hs'
            obtain ⟨F1, r, hcl⟩ := (HIv.out W hW).2.2 s
            obtain ⟨k1, cx, k2, k3⟩ := hcl.val (HFS.out.2.1 s (List.mem_of_getElem? hs))
            obtain ⟨Ai, ci, e, hI⟩ := NewI.at k3
            refine ⟨by have := idsP_len (pstX X) n1 s; unfold maxLen; omega, Ai, ci, ?_, hI⟩
            rw [k2]; exact e
          · rw [List.getElem?_append_right (by simpa using hj)] at hv hl
            simp only [List.getElem?_map, Option.map_eq_some_iff] at hl
            obtain ⟨_, _, rfl⟩ := hl
            obtain ⟨Ai, ci, e, hI⟩ := hvs v (List.mem_of_getElem? hv)
            exact ⟨by unfold maxLen; omega, Ai, ci, e, hI⟩
        have HLS := Lib.hid hls
        have hlen : allLen (fs.map (idsP (pstX X) n1)) ≤ 1600 := Nat.le_trans (allLen_ids _ _ HFS.out.1) hpl
        have hU : ∀ l ∈ fs.map (idsP (pstX X) n1), Up l := fun l hl => by obtain ⟨s, _, rfl⟩ := List.mem_map.1 hl; exact HX.out.good.up n1 s
        have HU := Lib.hid (And.intro hlen hU)
        have HFL := Lib.hid hfl
        clear hls hlen hU hq0
        rw [hfl] at HO ⊢
        cases O0 with
        | false =>
          go_wp2_with (first
            | (go_at_call 38; refine (c1.out wr none 0 0 [] hb (by omega) (LAt.nil _ _) (by simp)).mono ?_; rintro e w2 ⟨rfl, hb2⟩; rw [HO0.out]; dsimp only))
          have hb3 := below2 hb hb2 hb.size
          have hl2 := HLS.out w2 A1 cap1 [] [] hb3 (by simp) (by simp) (by simp) (by simpa using (Keeps.below (F := []) hb2).row HO.out (by simp))
          have cu := union_c fl (fs.map (idsP (pstX X) n1)) A1 fl cap1 w2 (by simpa using HFL.out) (by omega) (by simpa using hl2) HU.out.2 (by have := HU.out.1; omega)
          refine cu.mono ?_
          rintro e w4 ⟨⟨u, A4, c4, rfl, hR4, hU4⟩, hb4⟩
          have hu := HF.out fs HFS.out.2.2.1 (noneW X n1) (fun x => mem_noneW x) u (by rw [HO0.out]; simpa using hU4)
          subst hu
          have HR4 := Lib.hid hR4
          clear hl2 cu hR4 hU4
          go_wp2_with fail
          go_ret
          exact ⟨⟨A4, c4, rfl, HR4.out⟩, below2 hb3 hb4 hb3.size⟩
        | true =>
          go_wp2_with (first
            | (go_at_call 38; refine (c1.out wr none 0 0 [] hb (by omega) (LAt.nil _ _) (by simp)).mono ?_; rintro e w2 ⟨rfl, hb2⟩; rw [HO0.out]; have hq2 := HD.out w2 (hbb.trans (hb2.mono (by have := hbb.size; have := hb.size; omega))); have y1 := blk_cell hq2 1; simp only [List.getElem?_toArray, List.getElem?_cons_succ, List.getElem?_cons_zero] at y1; have hb3 := below2 hb hb2 hb.size; clear hq2; dsimp only)
            | (go_at_call 39; refine (cw.out w2 hb3).mono ?_; rintro e w3 ⟨⟨wo, Aw, cx, rfl, hNw, hw1, hw2, hw3⟩, hb4⟩; have HW := Lib.hid (And.intro hNw (And.intro hw1 (And.intro hw2 hw3))); have HO3 := Lib.hid ((Keeps.below (F := []) hb4).row ((Keeps.below (F := []) hb2).row HO.out (by simp)) (by simp)); have hb5 := below2 hb3 hb4 hb3.size; have hs5 := hb5.size; have hs6 : w.heap.size + 1 ≤ w3.heap.size := Nat.le_trans hs1w (Nat.le_trans hb2.size hb4.size); clear hNw hw1 hw2 hw3; dsimp only)
            | (at_builtin; refine wpList_append_own_at _ rfl _ _ 81 rfl (w.heap.size + 1) 32 i0 (.slice none 0 0) 1 24 Tryz.underlying81 hi0 hz0 hz1 hz2 rfl (by decide) (.slice A1 fl cap1) fl (fs.map (valS DI)) rfl (HO3.out.alloc _) ⟨w3.heap.size, 0, none⟩ 1 1 [.slice Aw wo.length cx] rfl rfl (cell_one_new _ _ _) (by intro u hu; simp at hu; subst hu; rfl) (by unfold maxLen; omega) (by omega) (by simp; omega) ?_; intro v4 w4 hown4 hg4 _ _; have hg4 : (w3.alloc (.cells #[.slice Aw wo.length cx] 32)).grownBy w4 (Value.slice A1 fl cap1).ownBlock := hg4; obtain ⟨A4, c4, rfl⟩ := row_slice hown4; have hb6 : Below w.heap.size w w4 := (hb5.alloc hs5 _).grown hg4 (by simp; omega) (fun k hk => by have := (HO3.out.lt k hk).1; omega); have hb7 : Below w3.heap.size w3 w4 ∨ True := .inr trivial; have HK6 := Lib.hid (((Keeps.refl (Value.slice A1 fl cap1).ownBlock.toList w3).alloc (.cells #[.slice Aw wo.length cx] 32)).grown hg4 (fun k hk => by left; simp [hk])); have HO4 := Lib.hid hown4; clear hown4 hg4))
          have hN4 := HW.out.1.keeps HK6.out (fun k hk hm => by
            simp only [Option.mem_toList] at hm
            obtain ⟨cs, hcs⟩ := row_block HO3.out hm
            exact row_apart HW.out.1.own hcs (by decide) k hk rfl)
          obtain ⟨Ai, ci, eI, hI4⟩ := NewI.at hN4
          have hl4 := HLS.out w4 A4 c4 wo [.slice Aw wo.length cx] hb6 (fun v hv => by simp at hv; subst hv; exact ⟨Ai, ci, eI, hI4⟩) HW.out.2.2.2 (by simp) HO4.out
          have cu := union_c (fl + 1) (fs.map (idsP (pstX X) n1) ++ [wo]) A4 (fl + 1) c4 w4 (by simpa using HFL.out) (by omega) hl4 (fun l hl => by
            rcases List.mem_append.1 hl with hl | hl
            · exact HU.out.2 l hl
            · simp at hl; subst hl; exact HW.out.2.2.1) (by
              rw [allLen_append]
              have h1 := HU.out.1
              have h2 : allLen [wo] = wo.length := by simp [allLen]
              have h3 := HW.out.2.2.2
              omega)
          refine cu.mono ?_
          rintro e w5 ⟨⟨u, A5, c5, rfl, hR5, hU5⟩, hb8⟩
          have hu := HF.out fs HFS.out.2.2.1 wo HW.out.2.1 u (by rw [HO0.out]; simpa using hU5)
          subst hu
          have HR5 := Lib.hid hR5
          clear hl4 cu hR5 hU5 hN4 hI4 eI
          go_wp2_with fail
          go_ret
          exact ⟨⟨A5, c5, rfl, HR5.out⟩, below2 hb6 hb8 hb6.size⟩
      case refine_2 =>
        intro s c w' cnt' hsl hlf hgs hrg hlt hgr hsz hen
        have hbn : Below w.heap.size w w' := hb.grown hgr hbs (fun k hk => by simp at hk; omega)
        have hbbn : Below (w.heap.size + 1) W0 w' := hbb.grown hgr (by have := World.ranges.lt HR.out.1; omega) (fun k hk => by simp at hk; omega)
        have hrl : w.heap.size + 1 < w'.heap.size := World.ranges.lt hrg
        have hOn : w'.ownsRow (w.heap.size + 1) 32 1 (.slice A1 (ss.filter P1).length cap1) (ss.filter P1).length ((ss.filter P1).map (valS DI)) := ((Keeps.refl [w.heap.size + 1] wr).grown hgr (fun k hk => by left; simp at hk; simp [hk])).row HO.out (fun k hk hm => by
          simp at hm
          subst hm
          obtain ⟨cs, hcs⟩ := row_block HO.out hk
          obtain ⟨_, _, _, _, _, _, _, _, _, hr, _⟩ := HR.out.1
          rw [hcs] at hr
          injection hr with hr; cases hr)
        obtain ⟨Av, nv, cv, rfl⟩ := HI.out.slices s c hgs
        have hval : valS DI s = .slice Av nv cv := by unfold valS; rw [hgs]; rfl
        have hs32 : s.length ≤ 32 := by
          obtain ⟨F1, r, hcl⟩ := HI.out.2.2 s
          exact key_short HX.out.good (hcl.some.1 (by rw [hgs]; rfl))
        have hC2 := HR.out.2.1.step hlf hgs
        have hcnt := HR.out.2.2
        have hmeas := hrg.left_eq
        have hmeas0 := HR.out.1.left_eq
        have hp1 : P1 s = oneL (k1, n1, v1, s1) [(n1, s)] := by rw [HP1.out]
        have hq0 := HD.out w' hbbn
        have x0 := blk_cell hq0 0
        have x1 := blk_cell hq0 1
        have x2 := blk_cell hq0 2
        have x3 := blk_cell hq0 3
        simp only [List.getElem?_toArray, List.getElem?_cons_succ, List.getElem?_cons_zero] at x0 x1 x2 x3
        have hfil := filter_snoc P1 ss s
        have hfl : (ss.filter P1).length ≤ 3200 := by
          have h1 := List.length_filter_le P1 ss
          have h3 := HI.out.2.1
          omega
        obtain ⟨fs, hfs⟩ : ∃ x, ss.filter P1 = x := ⟨_, rfl⟩
        rw [hfs] at hfil hOn hfl ⊢
        obtain ⟨fl, hfl2⟩ : ∃ n, fs.length = n := ⟨_, rfl⟩
        rw [hfl2] at hOn hfl ⊢
        have hlab := lat_one w' n1 s (by omega) (by omega)
        have hbl : Below w.heap.size w (w'.alloc (.cells #[.string (str n1), .string (str s)] 40)) := hbn.alloc hbn.size _
        have hbl2 : Below w'.heap.size w' (w'.alloc (.cells #[.string (str n1), .string (str s)] 40)) := (Below.refl _ _).alloc (Nat.le_refl _) _
        have co := Lib.hid (c1.out _ _ 1 1 [(n1, s)] hbl (by omega) hlab (fun x hx => by simp at hx; subst hx; exact ⟨by simp; omega, by simp; omega⟩))
        have HN := Lib.hid (And.intro hOn (And.intro hrg (And.intro hC2 (And.intro hcnt (And.intro hmeas (And.intro hmeas0 (And.intro hp1 (And.intro hfil (And.intro hbn (And.intro hbbn (And.intro hfs (And.intro hfl2 hval))))))))))))
        have hsl' : ss.length + 1 + cnt' ≤ Maps.size DI := by omega
        clear hsz hgr hbn hbbn hOn hgs hval hC2 hcnt hmeas hmeas0 hp1 hq0 hfil hfs hfl2 hlab hbl hrg hlf hsl HO HR hb hbb hbs
        obtain ⟨pb, hpb⟩ : ∃ b, P1 s = b := ⟨_, rfl⟩
        have HPB := Lib.hid hpb
        clear hpb
        cases pb with
        | false =>
          go_wp2_with (first
            | (go_at_call 38; refine co.out.mono ?_; rintro e w2 ⟨rfl, hb2⟩; rw [← HN.out.2.2.2.2.2.2.1, HPB.out]; have hb3 := hbl2.trans (hb2.mono hbl2.size); clear hb2; dsimp only))
          go_roundw
          case rel =>
            obtain ⟨e1, e2, e3, e4, e5, e6, e7, e8, e9, e10, e11, e12, e13⟩ := HN.out
            rw [HPB.out] at e8
            simp only [Bool.false_eq_true, if_false] at e8
            refine ⟨_, cnt', ss ++ [s], A1, cap1, by rw [e8, e12], ⟨e2.of_walks (walks_below hb3), e3, by simp; omega⟩, ?_, below2 e9 hb3 e9.size, e10.trans (hb3.mono (by omega))⟩
            rw [e8, e12]
            exact (Keeps.below (F := []) hb3).row e1 (by simp)
          case measure =>
            obtain ⟨e1, e2, e3, e4, e5, e6, e7, e8, e9, e10, e11, e12, e13⟩ := HN.out
            rw [(e2.of_walks (walks_below hb3)).left_eq, e6]; exact hlt
        | true =>
          go_wp2_with (first
            | (go_at_call 38; refine co.out.mono ?_; rintro e w2 ⟨rfl, hb2⟩; rw [← HN.out.2.2.2.2.2.2.1, HPB.out]; have hb3 := hbl2.trans (hb2.mono hbl2.size); have HO2 := Lib.hid ((Keeps.below (F := []) hb3).row HN.out.1 (by simp)); have hs2 : w.heap.size + 1 < w2.heap.size := Nat.lt_of_lt_of_le hrl hb3.size; clear hb2; dsimp only)
            | (at_builtin; refine wpList_append_own_at _ rfl _ _ 81 rfl (w.heap.size + 1) 32 i0 (.slice none 0 0) 1 24 Tryz.underlying81 hi0 hz0 hz1 hz2 rfl (by decide) (.slice A1 fl cap1) fl (fs.map (valS DI)) rfl (HO2.out.alloc _) ⟨w2.heap.size, 0, none⟩ 1 1 [.slice Av nv cv] rfl rfl (cell_one_new _ _ _) (by intro u hu; simp at hu; subst hu; rfl) (by unfold maxLen; omega) (by omega) (by simp; omega) ?_; intro v4 w4 hown4 hg4 _ _; have hg4 : (w2.alloc (.cells #[.slice Av nv cv] 32)).grownBy w4 (Value.slice A1 fl cap1).ownBlock := hg4; obtain ⟨A4, c4, rfl⟩ := row_slice hown4; have hb4 : Below (w.heap.size + 1) w2 w4 := (((Below.refl _ w2).alloc (by omega) _).grown hg4 (by simp; omega) (fun k hk => (HO2.out.lt k hk).1)); have HWK := Lib.hid (KeepsWalks.trans (walks_below ((Below.refl _ w2).alloc (Nat.le_refl _) (.cells #[.slice Av nv cv] 32))) (KeepsWalks.of_grownBy hg4 (fun j o hj ho => by obtain ⟨cs, hcs⟩ := row_block (HO2.out.alloc (.cells #[.slice Av nv cv] 32)) hj; rw [hcs] at ho; injection ho with ho; subst ho; rfl))); have HO4 := Lib.hid hown4; clear hown4 hg4))
          go_roundw
          case rel =>
            obtain ⟨e1, e2, e3, e4, e5, e6, e7, e8, e9, e10, e11, e12, e13⟩ := HN.out
            rw [HPB.out] at e8
            simp only [if_true] at e8
            have el : (fs ++ [s]).length = fl + 1 := by simp [e12]
            refine ⟨_, cnt', ss ++ [s], A4, c4, by rw [e8, el], ⟨(e2.of_walks (walks_below hb3)).of_walks HWK.out, e3, by simp; omega⟩, ?_, (below2 e9 hb3 e9.size).trans (hb4.mono (by omega)), (e10.trans (hb3.mono (by omega))).trans hb4⟩
            rw [e8, el, List.map_append]
            rw [show [s].map (valS DI) = [.slice Av nv cv] by simp [e13]]
            exact HO4.out
          case measure =>
            obtain ⟨e1, e2, e3, e4, e5, e6, e7, e8, e9, e10, e11, e12, e13⟩ := HN.out
            rw [((e2.of_walks (walks_below hb3)).of_walks HWK.out).left_eq, e6]; exact hlt
end Go.Proofs.YtdbifbgjbfnfmaaGreatDoor
/-
  Layer 7 (index): the program's Select.
-/
namespace Go.Proofs.YtdbifbgjbfnfmaaGreatDoor
open Go.RowKit Go.Deep
attribute [local go_sem] str_size str_append str_toList str_get str_extract
set_option linter.unusedVariables false
set_option linter.unusedSimpArgs false
theorem selN_nil (X : Ix) : selN X [] X.length = allI X.length := by
  unfold selN allI
  congr 1
  rw [List.filter_eq_self]
  intro a _
  simp [meant, allL]
theorem selN_and (X : Ix) (ms : List Mat) (m : Mat) : mergeL fAnd (selN X ms X.length) (meantM X m) = selN X (ms ++ [m]) X.length := by
  unfold meantM
  refine up_ext (up_merge _ _ _ (selN_up X ms X.length) (selN_up X [m] X.length)) (selN_up X _ X.length) fun x => ?_
  rw [mem_and (selN_up X ms X.length) (selN_up X [m] X.length)]
  simp only [selN_mem]
  constructor
  · rintro ⟨⟨i, h1, rfl, h2⟩, j, h3, e, h4⟩
    obtain rfl : i = j := by omega
    refine ⟨i, h1, rfl, ?_⟩
    simp only [meant, allL, List.all_append, Bool.and_eq_true] at h2 h4 ⊢
    exact ⟨h2, h4⟩
  · rintro ⟨i, h1, rfl, h2⟩
    simp only [meant, allL, List.all_append, Bool.and_eq_true] at h2
    exact ⟨⟨i, h1, rfl, by simpa [meant, allL] using h2.1⟩, i, h1, rfl, by simpa [meant, allL] using h2.2⟩
set_option maxRecDepth 100000 in
set_option maxHeartbeats 2000000 in
theorem ixSelect_c (F : List Nat) (q : Nat) (X : Ix) (A : Option Addr) (len cap : Nat) (ms : List Mat) (w : World) (h : IsX F q X w) (hA : MsAt w A len ms) (hm : SmallMs ms) (hE : Env w) :
    Calls Tryz.prog 10 #[.pointer (some ⟨q, 0, none⟩), .slice A len cap] w fun e w' => GivesI (selX X ms) (eM (chkAll ms)) e w' ∧ Below w.heap.size w w' := by
  have hle := hA.1
  subst hle
  have h20 := hm.1
  have CK := Lib.hid (fun m A cap W (hW : Below w.heap.size w W) (hm : SmallM m) hS => mcheck_c m A cap W (smallM_of hm) hS (Utf8Tabs_below hE.tabs hW))
  have CA := Lib.hid (fun W (hW : Below w.heap.size w W) => ixAll_c F q X W (h.below hW))
  have CM := Lib.hid (fun W m S sc (hW : Below w.heap.size w W) (hm : SmallM m) hS => ixMeant_c F q X m S sc W (h.below hW) hm hS)
  have hX := h.good.few
  obtain ⟨R, hR⟩ : ∃ R, selX X ms = R := ⟨_, rfl⟩
  obtain ⟨E, hE2⟩ : ∃ R, eM (chkAll ms) = R := ⟨_, rfl⟩
  rw [hR, hE2]
  have HRE := Lib.hid (And.intro hR hE2)
  have HM := Lib.hid hm
  clear hR hE2 hm h hE
  go_enter Tryz.func10, Tryz.ntmps10
  go_wp2_with fail
  go_loopw [14] (fun c wr => ∃ i : Nat, i ≤ ms.length ∧ c = .int .i64 i ∧ Hid (∀ m ∈ ms.take i, chkL m = true) ∧ Below w.heap.size w wr) (fun c _ => ms.length - (intOf c).toNat)
  case atStart => exact ⟨0, Nat.zero_le _, rfl, by show ∀ _, _; simp, Below.refl _ _⟩
  case round =>
    obtain ⟨i, hi, rfl, HK, hb⟩ := hrel
    have hbs := hb.size
    by_cases hlt : i < ms.length
    · obtain ⟨⟨r1, r2, r3, r4, r5⟩, ad, rfl, k2, k3, k4, k5, S, c5, k6, k7⟩ := (hA.below hb).2 i hlt
      have hnx := fun h1 h2 => mem_take_next (P := fun m => chkL m = true) hlt h1 h2
      have hs := HM.out.2 _ (List.getElem_mem hlt)
      have hmem : ms[i] ∈ ms := List.getElem_mem hlt
      obtain ⟨m, hm⟩ : ∃ m, ms[i]'hlt = m := ⟨_, rfl⟩
      rw [hm] at r1 r2 r3 r4 r5 k3 k4 k5 k6 k7 hnx hs hmem
      have hba : Below wr.heap.size wr (wr.alloc (.cells #[.int .i64 m.1, .string (str m.2.1), .string (str m.2.2.1), .slice S m.2.2.2.length c5] 57)) := (Below.refl _ _).alloc (Nat.le_refl _) _
      have hbw := hb.alloc hbs (.cells #[.int .i64 m.1, .string (str m.2.1), .string (str m.2.2.1), .slice S m.2.2.2.length c5] 57)
      have ck := CK.out m S c5 _ hbw hs (k7.below hba)
      cases hcm : chkL m with
      | true =>
        rw [hcm] at ck
        have CKh := Lib.hid ck
        have HX := Lib.hid (hnx HK.out hcm)
        clear ck hnx hm hs k7 hcm hmem
        go_wp2_with fail
        refine CKh.out.mono ?_
        rintro e w1 ⟨rfl, hb1⟩
        have hb1 := below2 hb (hba.trans (hb1.mono hba.size)) hbs
        go_wp2_with fail
        go_roundw
        case rel => exact ⟨i + 1, by omega, by go_num, HX.out, hb1⟩
        case measure => simp [intOf]; omega
      | false =>
        rw [hcm] at ck
        have CKh := Lib.hid ck
        have hf : chkAll ms = false := by
          unfold chkAll
          rw [Bool.eq_false_iff]
          intro ht
          rw [List.all_eq_true] at ht
          have := ht m hmem
          rw [hcm] at this
          cases this
        have e1 : R = [] := by rw [← HRE.out.1]; unfold selX; rw [hf]; rfl
        have e2 : E = 50 := by rw [← HRE.out.2, hf]; rfl
        have HE := Lib.hid (And.intro e1 e2)
        clear ck hnx hm hs k7 hcm hmem hf e1 e2
        go_wp2_with fail
        refine CKh.out.mono ?_
        rintro e w1 ⟨rfl, hb1⟩
        have hb1 := below2 hb (hba.trans (hb1.mono hba.size)) hbs
        go_wp2_with fail
        go_ret2
        exact ⟨⟨none, 0, by rw [HE.out.1, HE.out.2]; rfl, by rw [HE.out.1]; exact NewI.nil _ _⟩, hb1⟩
    · obtain rfl : i = ms.length := by omega
      have hall : chkAll ms = true := by
        unfold chkAll
        rw [List.all_eq_true]
        have := HK.out
        rwa [List.take_length] at this
      have e1 : selN X ms X.length = R := by rw [← HRE.out.1]; unfold selX; rw [if_pos hall]
      have e2 : E = 0 := by rw [← HRE.out.2, hall]; rfl
      have HE := Lib.hid (And.intro e1 e2)
      clear hall e1 e2
      go_wp2_with (first
        | (go_at_call 22; refine (CA.out wr hb).mono ?_; rintro e w1 ⟨⟨A1, c1, rfl, hN1⟩, hb1⟩; have HN1 := Lib.hid hN1; clear hN1; have hbo := below2 hb hb1 hbs; dsimp only))
      obtain ⟨wo, rfl⟩ : ∃ wo : World, wo = w1 := ⟨_, rfl⟩
      clear hb hb1 hbs HK
      go_loopw [9, 28] (fun v c wr => ∃ (i : Nat) (out : List Int) (A1 : Option Addr) (cap1 : Nat), i ≤ ms.length ∧ c = .int .i64 i ∧ v = .slice A1 out.length cap1 ∧ NewI 0 (.slice A1 out.length cap1) out wr ∧ Hid (out = selN X (ms.take i) X.length) ∧ Below w.heap.size w wr) (fun _ c _ => ms.length - (intOf c).toNat)
      case atStart =>
        have e0 := allI_len X.length
        exact ⟨0, allI X.length, A1, c1, Nat.zero_le _, rfl, by rw [e0], by rw [e0]; exact HN1.out, by show _ = _; rw [List.take_zero, selN_nil], hbo⟩
      case round =>
        clear hbo HN1
        obtain ⟨i, out, A2, cap1, hi, rfl, rfl, hN, HO, hb⟩ := hrel
        have hbs := hb.size
        by_cases hlt : i < ms.length
        · obtain ⟨⟨r1, r2, r3, r4, r5⟩, ad, rfl, k2, k3, k4, k5, S, c5, k6, k7⟩ := (hA.below hb).2 i hlt
          have hs := HM.out.2 _ (List.getElem_mem hlt)
          have hst : selN X (ms.take (i + 1)) X.length = mergeL fAnd out (meantM X ms[i]) := by rw [HO.out, selN_and, List.take_succ_eq_append_getElem hlt]
          have hol : out.length ≤ 200 := by rw [HO.out]; have := selN_len X (ms.take i) X.length; omega
          obtain ⟨m, hm⟩ : ∃ m, ms[i]'hlt = m := ⟨_, rfl⟩
          rw [hm] at r1 r2 r3 r4 r5 k3 k4 k5 k6 k7 hs hst
          have hba : Below wr.heap.size wr (wr.alloc (.cells #[.int .i64 m.1, .string (str m.2.1), .string (str m.2.2.1), .slice S m.2.2.2.length c5] 57)) := (Below.refl _ _).alloc (Nat.le_refl _) _
          have hbw := hb.alloc hbs (.cells #[.int .i64 m.1, .string (str m.2.1), .string (str m.2.2.1), .slice S m.2.2.2.length c5] 57)
          have cm := Lib.hid (CM.out _ m S c5 hbw hs (k7.below hba))
          have hml : (meantM X m).length ≤ 200 := by have := selN_len X [m] X.length; unfold meantM; omega
          obtain ⟨T, hT⟩ : ∃ T, meantM X m = T := ⟨_, rfl⟩
          rw [hT] at cm hst hml
          have HN := Lib.hid hN
          have HS := Lib.hid hst
          clear hst hm k7 hs hN hT
          go_wp2_with (first
            | (go_at_call 24; refine cm.out.mono ?_; rintro e w2 ⟨⟨A3, c3, rfl, hN3⟩, hb2⟩; have hb3 := hba.trans (hb2.mono hba.size); have can := Lib.hid (and_u (w := w2) (R := mergeL fAnd out T) rfl (by omega) (by omega) (HN.out.below hb3) hN3); clear hN3 hb2; dsimp only)
            | (go_at_call 23; refine can.out.mono ?_; rintro e w4 ⟨⟨A5, c5', rfl, hN5⟩, hb5⟩; have HN5 := Lib.hid hN5; have hb6 := below2 hb (hb3.trans (hb5.mono hb3.size)) hbs; clear hN5; dsimp only))
          go_roundw
          case rel => exact ⟨i + 1, _, A5, c5', by omega, by go_num, rfl, HN5.out, HS.out.symm, hb6⟩
          case measure => simp [intOf]; omega
        · obtain rfl : i = ms.length := by omega
          have HN := Lib.hid hN
          have ho : out = R := by have := HO.out; rw [List.take_length] at this; rw [this]; exact HE.out.1
          subst ho
          clear hN
          go_wp2_with fail
          go_ret2
          exact ⟨⟨A2, cap1, by rw [HE.out.2]; rfl, HN.out⟩, hb⟩
end Go.Proofs.YtdbifbgjbfnfmaaGreatDoor
/-
  Layer 7 (index): the program's Names and Values.
-/
namespace Go.Proofs.YtdbifbgjbfnfmaaGreatDoor
open Go.RowKit Go.Deep
attribute [local go_sem] str_size str_append str_toList str_get str_extract
set_option linter.unusedVariables false
set_option linter.unusedSimpArgs false
/-- What a call that gives texts answers. -/
def GivesT (R : List Txt) (e : Ending) (w' : World) : Prop := ∃ A1 c1, e = .returned (.slice A1 R.length c1) ∧ TRow w' A1 c1 R
/-- Texts that are sorted, each once, rise. -/
theorem sorted_up {ss : List Txt} (h : ss.Nodup) : UpT (ss.mergeSort fun x y => decide (x ≤ y)) ∧ ∀ s, s ∈ (ss.mergeSort fun x y => decide (x ≤ y)) ↔ s ∈ ss := by
  have hp := List.mergeSort_perm ss (fun x y => decide (x ≤ y))
  have hs : (ss.mergeSort fun x y => decide (x ≤ y)).Pairwise (fun x y => decide (x ≤ y) = true) := List.pairwise_mergeSort (fun a b c h1 h2 => by simp only [decide_eq_true_eq] at *; exact List.le_trans h1 h2) (fun a b => by simp only [Bool.or_eq_true, decide_eq_true_eq]; exact List.le_total a b) ss
  have hn : (ss.mergeSort fun x y => decide (x ≤ y)).Nodup := hp.nodup_iff.2 h
  refine ⟨?_, fun s => hp.mem_iff⟩
  refine (hs.and hn).imp ?_
  rintro a b ⟨h1, h2⟩
  simp only [decide_eq_true_eq] at h1
  rcases lt_tri a b with h | h | h
  · exact h
  · exact absurd h h2
  · unfold Lt at h
    rw [bytesLess_eq, decide_eq_true_eq] at h
    exact absurd h h1
/-- A row of texts of the call's own is sorted. -/
theorem sortT_c (A : Option Addr) (cap B : Nat) (ss : List Txt) (w : World) (hl : ss.length ≤ 100000) (hrow : w.ownsRow B 9 1 (.slice A ss.length cap) ss.length (txtC ss)) :
    Calls Tryz.prog 32 #[.slice A ss.length cap] w fun e w' => e = .returned (.tuple #[]) ∧ w'.ownsRow B 9 1 (.slice A ss.length cap) ss.length (txtC (ss.mergeSort fun x y => decide (x ≤ y))) ∧ Below B w w' := by
  rcases hrow.2 with ⟨e, h0⟩ | ⟨g, c, cur, e, hB, hb, h1, h2, h3, h4⟩
  · have hs : ss = [] := List.length_eq_zero_iff.1 h0
    subst hs
    refine (Tryz.slices_Sort_string_none A cap w).mono ?_
    rintro e w' ⟨rfl, rfl⟩
    exact ⟨rfl, by simpa using hrow, Below.refl _ _⟩
  · injection e with e1 e2 e3
    subst e1 e3
    have e : txtC ss = ss.map encStr := rfl
    have hH := holds_of_block hb (ss := ss) (by rw [← e]; simpa using h4)
    refine (Tryz.slices_Sort_string g 0 cap ss w hH (lt_of_block hb) (by omega)).mono ?_
    rintro e w' ⟨rfl, n, os, rfl⟩
    refine ⟨rfl, ?_, (Below.refl B w).grown (grownBy_sorted _) (by have := lt_of_block hb; omega) (fun k hk => by simp at hk; omega)⟩
    have hlen : (ss.mergeSort fun x y => decide (x ≤ y)).length = ss.length := List.length_mergeSort _
    exact ownsRow_sorted hlen hB hb h1 h2 (by simpa using h3)
set_option maxRecDepth 100000 in
set_option maxHeartbeats 2000000 in
theorem risingA_c (m : Option Nat) (nn : Nat) (D : DataW Value) (w : World) (hm : (m = none ∧ D = .map []) ∨ ∃ bm, m = some bm ∧ MapS Tryz.prog 9 w bm nn D) (hk : ∀ s, (getS D s).isSome = true → s.length ≤ 4096) (hsz : Maps.size D ≤ 5000) :
    Calls Tryz.prog 25 #[.map m] w fun e w' => (∃ R A1 c1, e = .returned (.slice A1 R.length c1) ∧ TRow w' A1 c1 R ∧ UpT R ∧ ∀ s, s ∈ R ↔ (getS D s).isSome = true) ∧ Below w.heap.size w w' := by
  obtain ⟨i0, hi0, hz0, hz1, hz2⟩ := info_parts str_info7
  have HK := Lib.hid hk
  clear hk
  rcases hm with ⟨rfl, rfl⟩ | ⟨bm, rfl, hM⟩
  · have hrg := run_range_nilMap (P := Tryz.prog) w 52 9 50 Tryz.underlying52
    have hnx : ∀ ty, (Instr.next (.pointer (some ⟨w.heap.size, 0, none⟩)) false ty).run Tryz.prog (w.alloc (.mapIter none 0 #[] 0)) = .ok (.tuple #[.bool false]) (w.alloc (.mapIter none 0 #[] 0)) := fun ty => run_next_nilMap w ty 0 0 #[]
    have hb : Below w.heap.size w (w.alloc (.mapIter none 0 #[] 0)) := (Below.refl _ w).alloc (Nat.le_refl _) _
    go_enter Tryz.func25, Tryz.ntmps25
    go_wp2_with fail
    refine wp_loop_rounds 1 ?_
    rw [rounds_succ]
    have HS := Lib.hid (sortT_c none 0 w.heap.size [] (w.alloc (.mapIter none 0 #[] 0)) (by simp) ⟨rfl, .inl ⟨rfl, rfl⟩⟩)
    go_wp2_with (first
      | (go_at_call 32; refine HS.out.mono ?_; rintro e w2 ⟨rfl, hO2, hb2⟩; dsimp only))
    go_ret
    exact ⟨⟨[], none, 0, rfl, TRow.nil _, List.Pairwise.nil, fun s => by rw [getS_empty]; simp⟩, hb.trans hb2⟩
  · go_enter Tryz.func25, Tryz.ntmps25
    go_wp2_with (first
      | (at_range; refine wpList_range_own _ rfl _ 52 rfl 9 50 (Maps.string_keyed Tryz.underlying9) Tryz.underlying52 anyE bm nn D rfl hM ?_; intro w1 hrg1 hg1 hs1; have hb1 : Below w.heap.size w w1 := (Below.refl _ w).grown hg1 (Nat.le_refl _) (fun k hk => by cases hk); have HRG := Lib.hid hrg1; clear hrg1 hg1 hs1))
    go_frame
    go_loopw [3] (fun v wr => ∃ (left : Lit → Bool) (cnt : Nat) (ss : List Txt) (A1 : Option Addr) (cap1 : Nat), v = .slice A1 ss.length cap1 ∧ Hid (wr.ranges Tryz.prog 9 anyE bm w.heap.size nn D left cnt ∧ Coll D left ss ∧ ss.length + cnt ≤ Maps.size D) ∧
      Hid (wr.ownsRow w.heap.size 9 1 (.slice A1 ss.length cap1) ss.length (txtC ss)) ∧ Below w.heap.size w wr) (fun _ wr => wr.rangeLeft bm w.heap.size)
    case atStart => exact ⟨_, _, [], none, 0, rfl, ⟨HRG.out, Coll.start D, by simp⟩, ⟨rfl, .inl ⟨rfl, rfl⟩⟩, hb1⟩
    case round =>
      clear HRG hb1 hM
      obtain ⟨left, cnt, ss, A1, cap1, rfl, HR, HO, hb⟩ := hrel
      have hbs := hb.size
      go_wp2_with (first | (at_next; refine wpList_next_s _ rfl (.tmp 6) rfl 9 Tryz.underlying9 bm w.heap.size nn D left cnt rfl HR.out.1 ?_ ?_))
      case refine_1 =>
        intro h0 hl0
        have hal := HR.out.2.1.all hl0
        have HF : Hid (ss.Nodup ∧ (∀ x, x ∈ ss ↔ (getS D x).isSome = true) ∧ ∀ x ∈ ss, x.length ≤ 4096) := ⟨hal.1, hal.2, fun x hx => HK.out x ((hal.2 x).1 hx)⟩
        have hsl : ss.length ≤ 100000 := by have := HR.out.2.2; omega
        have HS := Lib.hid (sortT_c A1 cap1 w.heap.size ss wr hsl HO.out)
        clear hal HR HO
        go_wp2_with (first
          | (go_at_call 32; refine HS.out.mono ?_; rintro e w2 ⟨rfl, hO2, hb2⟩; have HO2 := Lib.hid hO2; clear hO2; dsimp only))
        go_ret
        have hlen : (ss.mergeSort fun x y => decide (x ≤ y)).length = ss.length := List.length_mergeSort _
        refine ⟨⟨_, A1, cap1, by rw [hlen]; rfl, ⟨by rw [hlen]; exact HO2.out.mono (Nat.zero_le _), fun x hx => ?_⟩, (sorted_up HF.out.1).1, fun s => ((sorted_up HF.out.1).2 s).trans (HF.out.2.1 s)⟩, hb.trans hb2⟩
        exact HF.out.2.2 x (((sorted_up HF.out.1).2 x).1 hx)
      case refine_2 =>
        intro s c w' cnt' hsl hlf hgs hrg hlt hgr hsz2 hen
        have hbn : Below w.heap.size w w' := hb.grown hgr hbs (fun k hk => by simp at hk; omega)
        have hrl : w.heap.size < w'.heap.size := World.ranges.lt hrg
        have hOn : w'.ownsRow w.heap.size 9 1 (.slice A1 ss.length cap1) ss.length (txtC ss) := ((Keeps.refl [w.heap.size] wr).grown hgr (fun k hk => by left; simp at hk; simp [hk])).row HO.out (fun k hk hm => by
          simp at hm
          subst hm
          obtain ⟨cs, hcs⟩ := row_block HO.out hk
          obtain ⟨_, _, _, _, _, _, _, _, _, hr, _⟩ := HR.out.1
          rw [hcs] at hr
          injection hr with hr; cases hr)
        have hks : s.length ≤ 4096 := HK.out s (by rw [hgs]; rfl)
        have hC2 := HR.out.2.1.step hlf hgs
        have hcnt := HR.out.2.2
        have hmeas0 := HR.out.1.left_eq
        have hsl2 : ss.length ≤ 5000 := by omega
        have hc2 : ss.length + 1 + cnt' ≤ Maps.size D := by omega
        have HN := Lib.hid (And.intro hOn (And.intro hrg (And.intro hC2 (And.intro hmeas0 hbn))))
        have cc := Lib.hid (clone_c s w' (by omega))
        obtain ⟨sl, hsl3⟩ : ∃ n, ss.length = n := ⟨_, rfl⟩
        have HSL := Lib.hid hsl3
        rw [hsl3] at hsl2 ⊢
        clear hsz2 hgr hbn hOn hgs hC2 hcnt hmeas0 hrg hlf hsl HO HR hb hbs hsl3
        go_wp2_with (first
          | (go_at_call 31; refine cc.out.mono ?_; rintro e w2 ⟨rfl, hb2⟩; have HO2 := Lib.hid ((Keeps.below (F := []) hb2).row HN.out.1 (by simp)); have hs2 : w.heap.size < w2.heap.size := Nat.lt_of_lt_of_le hrl hb2.size; dsimp only)
          | (at_builtin; refine wpList_append_own_at _ rfl _ _ 28 rfl w.heap.size 9 i0 (.string (str [])) 1 16 Tryz.underlying28 hi0 hz0 hz1 hz2 rfl (by decide) (.slice A1 sl cap1) sl (txtC ss) rfl (by rw [← HSL.out]; exact HO2.out.alloc _) ⟨w2.heap.size, 0, none⟩ 1 1 [.string (str s)] rfl rfl (cell_one_new _ _ _) (by intro u hu; simp at hu; subst hu; rfl) (by unfold maxLen; omega) (by omega) (by simp; omega) ?_; intro v4 w4 hown4 hg4 _ _; have hg4 : (w2.alloc (.cells #[.string (str s)] 9)).grownBy w4 (Value.slice A1 sl cap1).ownBlock := hg4; have hr2 : w2.ownsRow w.heap.size 9 1 (.slice A1 sl cap1) sl (txtC ss) := by rw [← HSL.out]; exact HO2.out
             obtain ⟨A4, c4, rfl⟩ := row_slice hown4; have hb4 : Below w.heap.size w2 w4 := (((Below.refl _ w2).alloc (by omega) _).grown hg4 (by simp; omega) (fun k hk => (hr2.lt k hk).1)); have HWK := Lib.hid (KeepsWalks.trans (walks_below ((Below.refl _ w2).alloc (Nat.le_refl _) (.cells #[.string (str s)] 9))) (KeepsWalks.of_grownBy hg4 (fun j o hj ho => by obtain ⟨cs, hcs⟩ := row_block (hr2.alloc (.cells #[.string (str s)] 9)) hj; rw [hcs] at ho; injection ho with ho; subst ho; rfl))); have HO4 := Lib.hid hown4; clear hown4 hg4 hr2))
        go_roundw
        case rel =>
          obtain ⟨e1, e2, e3, e4, e5⟩ := HN.out
          have el : (ss ++ [s]).length = sl + 1 := by simp [HSL.out]
          refine ⟨_, cnt', ss ++ [s], A4, c4, by rw [el], ⟨(e2.of_walks (walks_below hb2)).of_walks HWK.out, e3, by simp; omega⟩, ?_, (below2 e5 hb2 e5.size).trans hb4⟩
          rw [el, txtC_append]
          exact HO4.out
        case measure =>
          obtain ⟨e1, e2, e3, e4, e5⟩ := HN.out
          rw [((e2.of_walks (walks_below hb2)).of_walks HWK.out).left_eq, e4]; exact hlt
set_option maxRecDepth 100000 in
set_option maxHeartbeats 2000000 in
theorem risingB_c (m : Option Nat) (nn : Nat) (D : DataW Value) (w : World) (hm : (m = none ∧ D = .map []) ∨ ∃ bm, m = some bm ∧ MapS Tryz.prog 9 w bm nn D) (hk : ∀ s, (getS D s).isSome = true → s.length ≤ 4096) (hsz : Maps.size D ≤ 5000) :
    Calls Tryz.prog 19 #[.map m] w fun e w' => (∃ R A1 c1, e = .returned (.slice A1 R.length c1) ∧ TRow w' A1 c1 R ∧ UpT R ∧ ∀ s, s ∈ R ↔ (getS D s).isSome = true) ∧ Below w.heap.size w w' := by
  obtain ⟨i0, hi0, hz0, hz1, hz2⟩ := info_parts str_info7
  have HK := Lib.hid hk
  clear hk
  rcases hm with ⟨rfl, rfl⟩ | ⟨bm, rfl, hM⟩
  · have hrg := run_range_nilMap (P := Tryz.prog) w 50 9 32 Tryz.underlying50
    have hnx : ∀ ty, (Instr.next (.pointer (some ⟨w.heap.size, 0, none⟩)) false ty).run Tryz.prog (w.alloc (.mapIter none 0 #[] 0)) = .ok (.tuple #[.bool false]) (w.alloc (.mapIter none 0 #[] 0)) := fun ty => run_next_nilMap w ty 0 0 #[]
    have hb : Below w.heap.size w (w.alloc (.mapIter none 0 #[] 0)) := (Below.refl _ w).alloc (Nat.le_refl _) _
    go_enter Tryz.func19, Tryz.ntmps19
    go_wp2_with fail
    refine wp_loop_rounds 1 ?_
    rw [rounds_succ]
    have HS := Lib.hid (sortT_c none 0 w.heap.size [] (w.alloc (.mapIter none 0 #[] 0)) (by simp) ⟨rfl, .inl ⟨rfl, rfl⟩⟩)
    go_wp2_with (first
      | (go_at_call 32; refine HS.out.mono ?_; rintro e w2 ⟨rfl, hO2, hb2⟩; dsimp only))
    go_ret
    exact ⟨⟨[], none, 0, rfl, TRow.nil _, List.Pairwise.nil, fun s => by rw [getS_empty]; simp⟩, hb.trans hb2⟩
  · go_enter Tryz.func19, Tryz.ntmps19
    go_wp2_with (first
      | (at_range; refine wpList_range_own _ rfl _ 50 rfl 9 32 (Maps.string_keyed Tryz.underlying9) Tryz.underlying50 anyE bm nn D rfl hM ?_; intro w1 hrg1 hg1 hs1; have hb1 : Below w.heap.size w w1 := (Below.refl _ w).grown hg1 (Nat.le_refl _) (fun k hk => by cases hk); have HRG := Lib.hid hrg1; clear hrg1 hg1 hs1))
    go_frame
    go_loopw [3] (fun v wr => ∃ (left : Lit → Bool) (cnt : Nat) (ss : List Txt) (A1 : Option Addr) (cap1 : Nat), v = .slice A1 ss.length cap1 ∧ Hid (wr.ranges Tryz.prog 9 anyE bm w.heap.size nn D left cnt ∧ Coll D left ss ∧ ss.length + cnt ≤ Maps.size D) ∧
      Hid (wr.ownsRow w.heap.size 9 1 (.slice A1 ss.length cap1) ss.length (txtC ss)) ∧ Below w.heap.size w wr) (fun _ wr => wr.rangeLeft bm w.heap.size)
    case atStart => exact ⟨_, _, [], none, 0, rfl, ⟨HRG.out, Coll.start D, by simp⟩, ⟨rfl, .inl ⟨rfl, rfl⟩⟩, hb1⟩
    case round =>
      clear HRG hb1 hM
      obtain ⟨left, cnt, ss, A1, cap1, rfl, HR, HO, hb⟩ := hrel
      have hbs := hb.size
      go_wp2_with (first | (at_next; refine wpList_next_s _ rfl (.tmp 6) rfl 9 Tryz.underlying9 bm w.heap.size nn D left cnt rfl HR.out.1 ?_ ?_))
      case refine_1 =>
        intro h0 hl0
        have hal := HR.out.2.1.all hl0
        have HF : Hid (ss.Nodup ∧ (∀ x, x ∈ ss ↔ (getS D x).isSome = true) ∧ ∀ x ∈ ss, x.length ≤ 4096) := ⟨hal.1, hal.2, fun x hx => HK.out x ((hal.2 x).1 hx)⟩
        have hsl : ss.length ≤ 100000 := by have := HR.out.2.2; omega
        have HS := Lib.hid (sortT_c A1 cap1 w.heap.size ss wr hsl HO.out)
        clear hal HR HO
        go_wp2_with (first
          | (go_at_call 32; refine HS.out.mono ?_; rintro e w2 ⟨rfl, hO2, hb2⟩; have HO2 := Lib.hid hO2; clear hO2; dsimp only))
        go_ret
        have hlen : (ss.mergeSort fun x y => decide (x ≤ y)).length = ss.length := List.length_mergeSort _
        refine ⟨⟨_, A1, cap1, by rw [hlen]; rfl, ⟨by rw [hlen]; exact HO2.out.mono (Nat.zero_le _), fun x hx => ?_⟩, (sorted_up HF.out.1).1, fun s => ((sorted_up HF.out.1).2 s).trans (HF.out.2.1 s)⟩, hb.trans hb2⟩
        exact HF.out.2.2 x (((sorted_up HF.out.1).2 x).1 hx)
      case refine_2 =>
        intro s c w' cnt' hsl hlf hgs hrg hlt hgr hsz2 hen
        have hbn : Below w.heap.size w w' := hb.grown hgr hbs (fun k hk => by simp at hk; omega)
        have hrl : w.heap.size < w'.heap.size := World.ranges.lt hrg
        have hOn : w'.ownsRow w.heap.size 9 1 (.slice A1 ss.length cap1) ss.length (txtC ss) := ((Keeps.refl [w.heap.size] wr).grown hgr (fun k hk => by left; simp at hk; simp [hk])).row HO.out (fun k hk hm => by
          simp at hm
          subst hm
          obtain ⟨cs, hcs⟩ := row_block HO.out hk
          obtain ⟨_, _, _, _, _, _, _, _, _, hr, _⟩ := HR.out.1
          rw [hcs] at hr
          injection hr with hr; cases hr)
        have hks : s.length ≤ 4096 := HK.out s (by rw [hgs]; rfl)
        have hC2 := HR.out.2.1.step hlf hgs
        have hcnt := HR.out.2.2
        have hmeas0 := HR.out.1.left_eq
        have hsl2 : ss.length ≤ 5000 := by omega
        have hc2 : ss.length + 1 + cnt' ≤ Maps.size D := by omega
        have HN := Lib.hid (And.intro hOn (And.intro hrg (And.intro hC2 (And.intro hmeas0 hbn))))
        have cc := Lib.hid (clone_c s w' (by omega))
        obtain ⟨sl, hsl3⟩ : ∃ n, ss.length = n := ⟨_, rfl⟩
        have HSL := Lib.hid hsl3
        rw [hsl3] at hsl2 ⊢
        clear hsz2 hgr hbn hOn hgs hC2 hcnt hmeas0 hrg hlf hsl HO HR hb hbs hsl3
        go_wp2_with (first
          | (go_at_call 31; refine cc.out.mono ?_; rintro e w2 ⟨rfl, hb2⟩; have HO2 := Lib.hid ((Keeps.below (F := []) hb2).row HN.out.1 (by simp)); have hs2 : w.heap.size < w2.heap.size := Nat.lt_of_lt_of_le hrl hb2.size; dsimp only)
          | (at_builtin; refine wpList_append_own_at _ rfl _ _ 28 rfl w.heap.size 9 i0 (.string (str [])) 1 16 Tryz.underlying28 hi0 hz0 hz1 hz2 rfl (by decide) (.slice A1 sl cap1) sl (txtC ss) rfl (by rw [← HSL.out]; exact HO2.out.alloc _) ⟨w2.heap.size, 0, none⟩ 1 1 [.string (str s)] rfl rfl (cell_one_new _ _ _) (by intro u hu; simp at hu; subst hu; rfl) (by unfold maxLen; omega) (by omega) (by simp; omega) ?_; intro v4 w4 hown4 hg4 _ _; have hg4 : (w2.alloc (.cells #[.string (str s)] 9)).grownBy w4 (Value.slice A1 sl cap1).ownBlock := hg4; have hr2 : w2.ownsRow w.heap.size 9 1 (.slice A1 sl cap1) sl (txtC ss) := by rw [← HSL.out]; exact HO2.out
             obtain ⟨A4, c4, rfl⟩ := row_slice hown4; have hb4 : Below w.heap.size w2 w4 := (((Below.refl _ w2).alloc (by omega) _).grown hg4 (by simp; omega) (fun k hk => (hr2.lt k hk).1)); have HWK := Lib.hid (KeepsWalks.trans (walks_below ((Below.refl _ w2).alloc (Nat.le_refl _) (.cells #[.string (str s)] 9))) (KeepsWalks.of_grownBy hg4 (fun j o hj ho => by obtain ⟨cs, hcs⟩ := row_block (hr2.alloc (.cells #[.string (str s)] 9)) hj; rw [hcs] at ho; injection ho with ho; subst ho; rfl))); have HO4 := Lib.hid hown4; clear hown4 hg4 hr2))
        go_roundw
        case rel =>
          obtain ⟨e1, e2, e3, e4, e5⟩ := HN.out
          have el : (ss ++ [s]).length = sl + 1 := by simp [HSL.out]
          refine ⟨_, cnt', ss ++ [s], A4, c4, by rw [el], ⟨(e2.of_walks (walks_below hb2)).of_walks HWK.out, e3, by simp; omega⟩, ?_, (below2 e5 hb2 e5.size).trans hb4⟩
          rw [el, txtC_append]
          exact HO4.out
        case measure =>
          obtain ⟨e1, e2, e3, e4, e5⟩ := HN.out
          rw [((e2.of_walks (walks_below hb2)).of_walks HWK.out).left_eq, e4]; exact hlt
theorem ixNames_c (F : List Nat) (q : Nat) (X : Ix) (w : World) (h : IsX F q X w) :
    Calls Tryz.prog 11 #[.pointer (some ⟨q, 0, none⟩)] w fun e w' => GivesT (namesX X) e w' ∧ Below w.heap.size w w' := by
  have hG := h.good
  have hpl := hG.plen
  obtain ⟨B, cB, bi, bo, h1, h2, -, FH, D, ib, rb, hH⟩ := h.at
  have hc := blk_cell h1 2
  simp only [List.getElem?_toArray, List.getElem?_cons_succ, List.getElem?_cons_zero] at hc
  have hgs : ∀ s, (getS D s).isSome = true ↔ hasN (pstX X) s = true := fun s => by rw [hH.get s]; split <;> simp_all
  have cr := Lib.hid (risingA_c (some bo) _ D w (.inr ⟨bo, rfl, hH.outer⟩) (fun s hs => by
    obtain ⟨v, hv⟩ := hasN_ids ((hgs s).1 hs)
    obtain ⟨x, hx⟩ := List.exists_mem_of_ne_nil _ hv
    obtain ⟨j, rfl, hm⟩ := mem_idsP.1 hx
    obtain ⟨hj, hm⟩ := mem_pstX.1 hm
    have := (okL_32 (hG.ok _ (List.getElem_mem hj)) _ hm).1
    simp at this
    omega) (by have := World.ownsMap.size_le hH.outer; omega))
  have HG := Lib.hid (And.intro hG hgs)
  clear h1 h2 hH h hgs hG
  go_enter Tryz.func11, Tryz.ntmps11
  go_wp2_with (first
    | (go_at_call 25; refine cr.out.mono ?_; rintro e w1 ⟨⟨R, A1, c1, rfl, hT, hU, hR⟩, hb⟩; have HT := Lib.hid (And.intro hT (And.intro hU hR)); clear hT hU hR; dsimp only))
  go_ret
  have e := namesX_eq HG.out.1 HT.out.2.1 (fun n => (HT.out.2.2 n).trans (HG.out.2 n))
  subst e
  exact ⟨⟨A1, c1, rfl, HT.out.1⟩, hb⟩
theorem ixValues_c (F : List Nat) (q : Nat) (X : Ix) (name : Txt) (w : World) (h : IsX F q X w) (hn : name.length ≤ 4096) :
    Calls Tryz.prog 8 #[.pointer (some ⟨q, 0, none⟩), .string (str name)] w fun e w' => GivesT (valuesX X name) e w' ∧ Below w.heap.size w w' := by
  have hG := h.good
  have hpl := hG.plen
  obtain ⟨B, cB, bi, bo, h1, h2, -, FH, D, ib, rb, hH⟩ := h.at
  have hc := blk_cell h1 2
  simp only [List.getElem?_toArray, List.getElem?_cons_succ, List.getElem?_cons_zero] at hc
  obtain ⟨m, DI, hI, hlg⟩ := hH.look name (by unfold maxLen; omega)
  have hlk := MapS.look (w := w) (e := 50) (z := .map none) false hH.outer Tryz.underlying9 Tryz.underlying52 (by kernel_rfl) name (by unfold maxLen; omega)
  rw [hlg] at hlk
  simp only [Bool.false_eq_true, if_false] at hlk
  have hgs : ∀ s, (getS DI s).isSome = true ↔ idsP (pstX X) name s ≠ [] := fun s => by
    obtain ⟨F1, r, hcl⟩ := hI.2.2 s
    exact hcl.some
  have cr := Lib.hid (risingB_c m _ DI w hI.1 (fun s hs => by
    have := key_short hG ((hgs s).1 hs)
    omega) (by have := hI.2.1; omega))
  have HG := Lib.hid (And.intro hG hgs)
  clear h1 h2 hH h hgs hG hI hlg
  go_enter Tryz.func8, Tryz.ntmps8
  go_wp2_with (first
    | (go_at_call 19; refine cr.out.mono ?_; rintro e w1 ⟨⟨R, A1, c1, rfl, hT, hU, hR⟩, hb⟩; have HT := Lib.hid (And.intro hT (And.intro hU hR)); clear hT hU hR; dsimp only))
  go_ret
  have e := valuesX_eq HG.out.1 HT.out.2.1 (fun n => (HT.out.2.2 n).trans (HG.out.2 n))
  subst e
  exact ⟨⟨A1, c1, rfl, HT.out.1⟩, hb⟩
end Go.Proofs.YtdbifbgjbfnfmaaGreatDoor
/-
  Layer 7 (index): the program's index, as the laws use it.
-/
namespace Go.Proofs.YtdbifbgjbfnfmaaGreatDoor
open Go.RowKit Go.Deep
set_option linter.unusedVariables false
theorem ixNew_c (w : World) (hE : Env w) : Calls Tryz.prog 12 #[] w fun e w' => (∃ q F, e = .returned (.pointer (some ⟨q, 0, none⟩)) ∧ IsX F q [] w' ∧ ∀ k ∈ F, w.heap.size ≤ k) ∧ Below w.heap.size w w' := ixNewS_c w
theorem ixLen_c (F : List Nat) (q : Nat) (X : Ix) (w : World) (h : IsX F q X w) : Calls Tryz.prog 16 #[.pointer (some ⟨q, 0, none⟩)] w fun e w' => e = .returned (.int .i64 X.length) ∧ Below w.heap.size w w' := by
  refine (ixLenS_c F q X w h).mono ?_
  rintro e w' ⟨he, rfl⟩
  exact ⟨he, Below.refl _ _⟩
theorem maxLen_cell7 {w : World} (hS : w.ShapedOpen Tryz.prog) : ∃ m : Int, w.cell? ⟨0, 0, none⟩ = some (.int .i64 m) ∧ 0 < w.heap.size := by
  have h : ∃ m : Int, w.cell? ⟨0, 0, none⟩ = some (.int .i64 m) := cell_of_shapedOpen_int (zero := #[.int .i64 0]) (t := 3) hS (of_decide_eq_true (by kernel_rfl)) (by kernel_rfl) rfl (by kernel_rfl) (by kernel_rfl) Tryz.underlying3
  obtain ⟨m, hm⟩ := h
  exact ⟨m, hm, World.block_lt_of_cell? w _ hm⟩
end Go.Proofs.YtdbifbgjbfnfmaaGreatDoor
/-
  Layer 7 (index): the program's index and the document's, side by side; made of any labels.
-/
namespace Go.Proofs.YtdbifbgjbfnfmaaGreatDoor
open Go.RowKit Go.Deep
set_option linter.unusedVariables false
set_option linter.unusedSimpArgs false
theorem LLAt.nth {w : World} {A : Option Addr} {len cap : Nat} {L : List (List Lab)} (h : LLAt w A len cap L) {i : Nat} (hi : i < L.length) : ∃ ad Ai ci, A = some ad ∧ (ad.add i).block < w.heap.size ∧ w.cell? (ad.add i) = some (.slice Ai L[i].length ci) ∧ LAt w Ai L[i].length L[i] := by
  obtain ⟨ad, Ai, ci, h1, h2, h3, h4, _⟩ := h.2.2 i hi
  exact ⟨ad, Ai, ci, h1, h2, h3, h4⟩
/-- q is the program's index of X, p the document's of Y; all from block B on. -/
def Two7 (B q p : Nat) (X Y : Ix) (w : World) : Prop := ∃ F G, IsX F q X w ∧ RefX G p Y w ∧ (∀ k ∈ F, k ∉ G) ∧ (∀ k ∈ F, B ≤ k) ∧ ∀ k ∈ G, B ≤ k
theorem Two7.below {B q p : Nat} {X Y : Ix} {w w' : World} (h : Two7 B q p X Y w) (hb : Below w.heap.size w w') : Two7 B q p X Y w' := by
  obtain ⟨F, G, h1, h2, h3, h4, h5⟩ := h
  exact ⟨F, G, h1.keeps (G := []) (Keeps.below hb) (by simp), h2.below hb, h3, h4, h5⟩
theorem Two7.good {B q p : Nat} {X Y : Ix} {w : World} (h : Two7 B q p X Y w) : Good X ∧ Good Y := by
  obtain ⟨F, G, h1, h2, _⟩ := h
  exact ⟨h1.good, h2.good⟩
theorem add_two {B q p : Nat} {X Y : Ix} {A : Option Addr} {cap : Nat} {l : List Lab} {w : World} (h : Two7 B q p X Y w) (hB : B ≤ w.heap.size) (hA : LAt w A l.length l) (hs : SmallL l) (hE : Env w) :
    Calls Tryz.prog 14 #[.pointer (some ⟨q, 0, none⟩), .slice A l.length cap] w fun e w' => e = .returned (.tuple #[.int .i64 (addI X l), .int .i64 (addE X l)]) ∧ Two7 B q p (addX X l) Y w' ∧ Below B w w' := by
  obtain ⟨F, G, h1, h2, h3, h4, h5⟩ := h
  refine (ixAdd_c F q X A l.length cap l w h1 hA (by have := hs.1; omega) hs.2 hE).mono ?_
  rintro e w1 ⟨F', rfl, hX, hK, hF⟩
  refine ⟨rfl, ⟨F', G, hX, h2.keeps hK (fun k hk hm => h3 k hm hk), fun k hk hm => ?_, fun k hk => ?_, h5⟩, hK.to hB h4⟩
  · rcases hF k hk with h | h
    · exact h3 k h hm
    · have := h2.lt k hm; omega
  · rcases hF k hk with h | h
    · exact h4 k h
    · omega
theorem radd_two {B q p : Nat} {X Y : Ix} {A : Option Addr} {cap : Nat} {l : List Lab} {w : World} (h : Two7 B q p X Y w) (hB : B ≤ w.heap.size) (hA : LAt w A l.length l) (hs : SmallL l) :
    Calls Tryz.prog 15 #[.pointer (some ⟨p, 0, none⟩), .slice A l.length cap] w fun e w' => e = .returned (.tuple #[.int .i64 (addI Y l), .int .i64 (addE Y l)]) ∧ Two7 B q p X (addX Y l) w' ∧ Below B w w' := by
  obtain ⟨F, G, h1, h2, h3, h4, h5⟩ := h
  refine (refAdd_c G p Y A l.length cap l w h2 hA (by have := hs.1; omega) hs.2).mono ?_
  rintro e w1 ⟨G', rfl, hX, hK, hF⟩
  refine ⟨rfl, ⟨F, G', h1.keeps hK h3, hX, fun k hk hm => ?_, h4, fun k hk => ?_⟩, hK.to hB h5⟩
  · rcases hF k hm with h | h
    · exact h3 k hk h
    · have := h1.lt k hk; omega
  · rcases hF k hk with h | h
    · exact h5 k h
    · omega
/-- What made answers. -/
def MadeOf (X : Ix) (B : Nat) (e : Ending) (w' : World) : Prop := ∃ q p, e = .returned (.tuple #[.pointer (some ⟨q, 0, none⟩), .pointer (some ⟨p, 0, none⟩), .bool true]) ∧ Two7 B q p X X w'
set_option maxRecDepth 100000 in
set_option maxHeartbeats 1000000 in
theorem made_c (A : Option Addr) (len cap : Nat) (L : List (List Lab)) (w : World) (hA : LLAt w A len cap L) (hs : SmallLL L) (hE : Env w) :
    Calls Tryz.prog 5 #[.slice A len cap] w fun e w' => MadeOf (addAll [] L) w.heap.size e w' ∧ Below w.heap.size w w' := by
  have hle := hA.1
  subst hle
  have hl := hs.1
  have HS := Lib.hid hs
  have HE := Lib.hid (fun W (h : Below w.heap.size w W) => hE.below h)
  have CN := Lib.hid (ixNew_c w hE)
  clear hs hE
  go_enter Tryz.func5, Tryz.ntmps5
  go_wp2_with fail
  refine CN.out.mono ?_
  rintro e w1 ⟨⟨q, F, rfl, hX, hF⟩, hb1⟩
  have HX := Lib.hid (And.intro hX hF)
  clear hX hF CN
  go_wp2_with fail
  refine (refNew_c w1).mono ?_
  rintro e w2 ⟨⟨rfl, hR⟩, hb2⟩
  have HT : Hid (Two7 w.heap.size q w1.heap.size [] [] w2) := ⟨F, [w1.heap.size], HX.out.1.keeps (G := []) (Keeps.below hb2) (by simp), hR, fun k hk hm => by simp at hm; have := HX.out.1.lt k hk; omega, HX.out.2, fun k hk => by simp at hk; rw [hk]; exact hb1.size⟩
  have hb2 := below2 hb1 hb2 hb1.size
  obtain ⟨p, hp⟩ : ∃ p, w1.heap.size = p := ⟨_, rfl⟩
  rw [hp] at HT ⊢
  clear hR HX hp hb1
  go_wp2_with fail
  go_loopw [7] (fun c wr => ∃ i : Nat, i ≤ L.length ∧ c = .int .i64 i ∧ Hid (Two7 w.heap.size q p (addAll [] (L.take i)) (addAll [] (L.take i)) wr) ∧ Below w.heap.size w wr) (fun c _ => L.length - (intOf c).toNat)
  case atStart => exact ⟨0, Nat.zero_le _, rfl, HT.out, hb2⟩
  case round =>
    clear HT hb2
    obtain ⟨i, hi, rfl, HT, hb⟩ := hrel
    have hbs := hb.size
    by_cases hlt : i < L.length
    · obtain ⟨ad, Ai, ci, rfl, h2, h3, h4⟩ := hA.nth hlt
      have hg3 := h3
      have h3 := (hb.cell (p := ad.add i) h2).trans hg3
      have hsm := HS.out.2 _ (List.getElem_mem hlt)
      have hst := addAll_take [] L i hlt
      obtain ⟨l, hl2⟩ : ∃ l, L[i]'hlt = l := ⟨_, rfl⟩
      rw [hl2] at h3 hg3 h4 hsm hst
      obtain ⟨X, hX⟩ : ∃ X, addAll [] (L.take i) = X := ⟨_, rfl⟩
      rw [hX] at HT hst
      have HG := Lib.hid (fun (W : World) (hW : Below w.heap.size w W) => (hW.cell (p := ad.add i) h2).trans hg3)
      have HA := Lib.hid (And.intro h4 hsm)
      have HST := Lib.hid hst
      obtain ⟨a, ha⟩ : ∃ a, addI X l = a := ⟨_, rfl⟩
      obtain ⟨b, hbb⟩ : ∃ b, addE X l = b := ⟨_, rfl⟩
      have HAB := Lib.hid (And.intro ha hbb)
      clear hg3 h4 hsm hst hl2 hX ha hbb
      go_wp2_with fail
      refine (add_two HT.out hbs (HA.out.1.below hb) HA.out.2 (HE.out _ hb)).mono ?_
      rintro e w3 ⟨rfl, hT3, hb3⟩
      rw [HAB.out.1, HAB.out.2]
      have HT3 := Lib.hid hT3
      have hb3 := hb.trans hb3
      have h3 := HG.out _ hb3
      clear hT3
      go_wp2_with fail
      refine (radd_two HT3.out hb3.size (HA.out.1.below hb3) HA.out.2).mono ?_
      rintro e w4 ⟨rfl, hT4, hb4⟩
      rw [HAB.out.1, HAB.out.2]
      have HT4 := Lib.hid hT4
      have hb4 := hb3.trans hb4
      have t1 : (a == a) = true := by simp
      have t2 : (b == b) = true := by simp
      clear hT4 h3
      go_wp2_with fail
      go_roundw
      case rel => exact ⟨i + 1, by omega, by go_num, by rw [HST.out]; exact HT4.out, hb4⟩
      case measure => simp [intOf]; omega
    · obtain rfl : i = L.length := by omega
      rw [List.take_length] at HT
      obtain ⟨X, hX⟩ : ∃ X, addAll [] L = X := ⟨_, rfl⟩
      rw [hX] at HT
      have HX := Lib.hid hX
      have CL := Lib.hid HT.out
      obtain ⟨F, G, i1, i2, _⟩ := CL.out
      have LX := Lib.hid (ixLen_c F q X wr i1)
      have LR := Lib.hid (fun W (h : Below wr.heap.size wr W) => refLen_c G p X W (i2.below h))
      clear i1 i2 hX
      go_wp2_with fail
      refine LX.out.mono ?_
      rintro e w3 ⟨rfl, hb3⟩
      go_wp2_with fail
      refine (LR.out _ hb3).mono ?_
      rintro e w4 ⟨rfl, rfl⟩
      have HT5 := Lib.hid (HT.out.below hb3)
      have hb5 := below2 hb hb3 hbs
      have t3 : ((X.length : Int) == (X.length : Int)) = true := by simp
      go_wp2_with fail
      go_ret3
      exact ⟨⟨q, p, rfl, by rw [HX.out]; exact HT5.out⟩, hb5⟩
/-! the calls, of both -/
theorem Two7.mono {B B' q p : Nat} {X Y : Ix} {w : World} (h : Two7 B q p X Y w) (hb : B' ≤ B) : Two7 B' q p X Y w := by
  obtain ⟨F, G, h1, h2, h3, h4, h5⟩ := h
  exact ⟨F, G, h1, h2, h3, fun k hk => Nat.le_trans hb (h4 k hk), fun k hk => Nat.le_trans hb (h5 k hk)⟩
section
variable {B q p : Nat} {X Y : Ix} {w : World}
theorem xlen (h : Two7 B q p X Y w) : Calls Tryz.prog 16 #[.pointer (some ⟨q, 0, none⟩)] w fun e w' => e = .returned (.int .i64 X.length) ∧ Below w.heap.size w w' := by
  obtain ⟨F, G, h1, h2, _⟩ := h; exact ixLen_c F q X w h1
theorem rlen (h : Two7 B q p X Y w) : Calls Tryz.prog 17 #[.pointer (some ⟨p, 0, none⟩)] w fun e w' => e = .returned (.int .i64 Y.length) ∧ Below w.heap.size w w' := by
  obtain ⟨F, G, h1, h2, _⟩ := h
  refine (refLen_c G p Y w h2).mono ?_
  rintro e w1 ⟨rfl, rfl⟩
  exact ⟨rfl, Below.refl _ _⟩
theorem rfind (h : Two7 B q p X Y w) {A : Option Addr} {cap : Nat} {l : List Lab} (hA : LAt w A l.length l) (hs : SmallL l) :
    Calls Tryz.prog 30 #[.pointer (some ⟨p, 0, none⟩), .slice A l.length cap] w fun e w' => e = .returned (.tuple #[.int .i64 (idF Y l), .bool (isF Y l)]) ∧ Below w.heap.size w w' := by
  obtain ⟨F, G, h1, h2, _⟩ := h; exact refFind_c G p Y A l.length cap l w h2 hA (by have := hs.1; omega)
theorem xselect (h : Two7 B q p X Y w) {A : Option Addr} {len cap : Nat} {ms : List Mat} (hA : MsAt w A len ms) (hm : SmallMs ms) (hE : Env w) :
    Calls Tryz.prog 10 #[.pointer (some ⟨q, 0, none⟩), .slice A len cap] w fun e w' => GivesI (selX X ms) (eM (chkAll ms)) e w' ∧ Below w.heap.size w w' := by
  obtain ⟨F, G, h1, h2, _⟩ := h; exact ixSelect_c F q X A len cap ms w h1 hA hm hE
theorem xnames (h : Two7 B q p X Y w) : Calls Tryz.prog 11 #[.pointer (some ⟨q, 0, none⟩)] w fun e w' => GivesT (namesX X) e w' ∧ Below w.heap.size w w' := by
  obtain ⟨F, G, h1, h2, _⟩ := h; exact ixNames_c F q X w h1
theorem rnames (h : Two7 B q p X Y w) : Calls Tryz.prog 6 #[.pointer (some ⟨p, 0, none⟩)] w fun e w' => GivesT (namesX Y) e w' ∧ Below w.heap.size w w' := by
  obtain ⟨F, G, h1, h2, _⟩ := h; exact refNames_c G p Y w h2
theorem xvalues (h : Two7 B q p X Y w) {n : Txt} (hn : n.length ≤ 4096) : Calls Tryz.prog 8 #[.pointer (some ⟨q, 0, none⟩), .string (str n)] w fun e w' => GivesT (valuesX X n) e w' ∧ Below w.heap.size w w' := by
  obtain ⟨F, G, h1, h2, _⟩ := h; exact ixValues_c F q X n w h1 hn
theorem rvalues (h : Two7 B q p X Y w) {n : Txt} (hn : n.length ≤ 4096) : Calls Tryz.prog 9 #[.pointer (some ⟨p, 0, none⟩), .string (str n)] w fun e w' => GivesT (valuesX Y n) e w' ∧ Below w.heap.size w w' := by
  obtain ⟨F, G, h1, h2, _⟩ := h; exact refValues_c G p Y n w h2 hn
end
theorem sameL {A A' : Option Addr} {cap cap' : Nat} {l m : List Lab} {w : World} {b : Bool} (hb : decide (l = m) = b) (hl : l.length ≤ 100000) (hm : m.length ≤ 100000) (hA : LAt w A l.length l) (hB : LAt w A' m.length m) :
    Calls Tryz.prog 48 #[.slice A l.length cap, .slice A' m.length cap'] w fun e w' => e = .returned (.bool b) ∧ Below w.heap.size w w' := by
  subst hb
  exact refSame_c A A' l.length m.length cap cap' l m w hl hm hA hB
theorem small_ok {l : List Lab} (h : okL l = true ∨ l = []) : SmallL l := by
  rcases h with h | rfl
  · have := labs_small h; exact ⟨by omega, fun x hx => by have := okL_32 h x hx; omega⟩
  · exact ⟨by simp, by simp⟩
/-! one matcher of none: it may not be -/
def zeroM : Mat := (0, [], [], [])
theorem make_one (w : World) : (Instr.makeSlice 36 (.int .i64 1) (.int .i64 1)).run Tryz.prog w = .ok (.slice (some ⟨w.heap.size, 0, none⟩) 1 1) (w.alloc (.cells #[.int .i64 0, .string ⟨#[]⟩, .string ⟨#[]⟩, .slice none 0 0] 57)) := by kernel_rfl
theorem ms_zero (w : World) : MsAt (w.alloc (.cells #[.int .i64 0, .string ⟨#[]⟩, .string ⟨#[]⟩, .slice none 0 0] 57)) (some ⟨w.heap.size, 0, none⟩) 1 [zeroM] := by
  refine ⟨rfl, fun i hi => ?_⟩
  have h := blk_new w (.cells #[.int .i64 0, .string ⟨#[]⟩, .string ⟨#[]⟩, .slice none 0 0] 57)
  match i, hi with
  | 0, _ => exact ⟨⟨by simp [zeroM], by simp [zeroM], by simp [zeroM], by simp [zeroM], by simp [zeroM]⟩, _, rfl, lt_of_block h, blk_cell h 0, blk_cell h 1, blk_cell h 2, none, 0, blk_cell h 3, StrsAt.nil _ _⟩
theorem zero_small : SmallMs [zeroM] := ⟨by simp, fun m hm => by simp at hm; subst hm; exact ⟨by simp [zeroM], by simp [zeroM], by simp [zeroM], by simp [zeroM]⟩⟩
theorem zero_bad : eM (chkAll [zeroM]) = 50 := by decide +kernel
/-- Select of it. -/
theorem xodd {B q p : Nat} {X Y : Ix} {w : World} (h : Two7 B q p X Y w) (hE : ∀ W, Below w.heap.size w W → Env W) :
    Calls Tryz.prog 10 #[.pointer (some ⟨q, 0, none⟩), .slice (some ⟨w.heap.size, 0, none⟩) 1 1] (w.alloc (.cells #[.int .i64 0, .string ⟨#[]⟩, .string ⟨#[]⟩, .slice none 0 0] 57)) fun e w' => GivesI (selX X [zeroM]) 50 e w' ∧ Below w.heap.size w w' := by
  have hb : Below w.heap.size w (w.alloc (.cells #[.int .i64 0, .string ⟨#[]⟩, .string ⟨#[]⟩, .slice none 0 0] 57)) := (Below.refl _ _).alloc (Nat.le_refl _) _
  have hc := xselect (h.below hb) (cap := 1) (ms_zero w) zero_small (hE _ hb)
  rw [zero_bad] at hc
  exact hc.mono fun e w' hw => ⟨hw.1, below2 hb hw.2 hb.size⟩
theorem selX_len {X : Ix} (h : Good X) (ms : List Mat) : (selX X ms).length ≤ 200 := by
  unfold selX
  split
  · have := selN_len X ms X.length; have := h.few; omega
  · simp
end Go.Proofs.YtdbifbgjbfnfmaaGreatDoor
