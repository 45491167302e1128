/-
  Texts of the same seat, one behind the other (merged; each says at its head what it is).
-/
import Derived.Test.YtdbifbgjbfnfmaaGreatDoorM01
import Derived.Test.YtdbifbgjbfnfmaaGreatDoorM04
import Derived.Deep.Onto
/-
  Layer 7 (index): the document's Add.
-/
namespace Go.Proofs.YtdbifbgjbfnfmaaGreatDoor
open Go.RowKit Go.Deep
set_option linter.unusedVariables false
set_option linter.unusedSimpArgs false
theorem lAt_all {w : World} {ad : Addr} {m : Nat} {L : List Lab} (h : LAt w (some ad) m L) : ∀ j u, (labC L)[j]? = some u → w.cell? (ad.add j) = some u := by
  intro j u hu
  have hj : j < (labC L).length := (List.getElem?_eq_some_iff.1 hu).1
  rw [labC_length] at hj
  obtain ⟨_, ad', had, _, h3, h4⟩ := h.2 (j / 2) (by omega)
  obtain rfl : ad = ad' := by injection had
  have hc := labC_get L (j / 2) (by omega)
  rcases Nat.mod_two_eq_zero_or_one j with e | e
  · have e2 : j = 2 * (j / 2) := by omega
    rw [← e2] at hc
    rw [hc.1] at hu
    rw [show j = j / 2 * 2 by omega, h3]
    exact hu
  · have e2 : j = 2 * (j / 2) + 1 := by omega
    rw [← e2] at hc
    rw [hc.2] at hu
    have ea : ad.add j = ⟨(ad.add (j / 2 * 2)).block, (ad.add (j / 2 * 2)).off + 1, none⟩ := by
      rcases ad with ⟨b, o, s⟩
      have h1 : (⟨b, o, s⟩ : Addr).add j = ⟨b, o + j, none⟩ := by unfold Addr.add; rw [if_neg (show ¬ j = 0 by omega)]
      rw [h1]
      by_cases h0 : j / 2 * 2 = 0
      · rw [h0]; show _ = (⟨b, o + 1, none⟩ : Addr); rw [show j = 1 by omega]
      · have h2 : (⟨b, o, s⟩ : Addr).add (j / 2 * 2) = ⟨b, o + j / 2 * 2, none⟩ := by unfold Addr.add; rw [if_neg h0]
        rw [h2]; show _ = (⟨b, o + j / 2 * 2 + 1, none⟩ : Addr); rw [show o + j / 2 * 2 + 1 = o + j by omega]
    rw [ea, h4]
    exact hu
theorem labC_each (l : List Lab) : ∀ u ∈ labC l, u.oneCell' = true := by
  induction l with
  | nil => intro u hu; simp [labC] at hu
  | cons s r ih =>
    intro u hu
    simp only [labC, List.mem_cons] at hu
    rcases hu with rfl | rfl | hu
    · rfl
    · rfl
    · exact ih u hu
/-- Labels behind a row of the call's own, in a region that draws its order: the source may be nil. -/
theorem step_labs {w : World} {ops : Array Oper} {o : Oper} {a : Act} {K : Act → World → Prop} {Q : Exit → Act → World → Prop} {E : Prop} (hgd : o.guard = none) (s x : Operand)
    (ho : o.op = .call { callee := .builtin .append, args := #[s, x], argTypes := #[38, 38] })
    (base : Nat) (g n cap0 : Nat) (l : List Lab) (hs : a.eval s = .slice (some ⟨g, 0, none⟩) n cap0) (hown : w.ownsRow base 40 2 (.slice (some ⟨g, 0, none⟩) n cap0) n (labC l))
    (A : Option Addr) (m c : Nat) (L : List Lab) (hx : a.eval x = .slice A m c) (hA : LAt w A m L) (h63 : n + m ≤ 10000) (hbase : base ≤ w.heap.size)
    (h : ∀ A' cap' w', w'.ownsRow base 40 2 (.slice A' (n + m) cap') (n + m) (labC (l ++ L)) → w.grownBy w' (some g) → (Value.ownBlock (.slice A' (n + m) cap') = some g ∨ Value.ownBlock (.slice A' (n + m) cap') = some w.heap.size) → K (a.put o.dst (.slice A' (n + m) cap')) w') :
    if Region.wanted o (yielded ops a.tmps) = true then Oper.wp Tryz.prog o a w K Q else E := by
  obtain ⟨i0, hi0, hz0, hz1, hz2⟩ := info_parts lab_info
  rw [labC_append] at h
  rcases A with _ | ad
  · have hm0 : m = 0 := by
      rcases Nat.eq_zero_or_pos m with h0 | h0
      · exact h0
      · obtain ⟨_, ad, e, _⟩ := hA.2 0 (by rw [← hA.1]; exact h0)
        cases e
    subst hm0
    have hL : L = [] := List.eq_nil_of_length_eq_zero hA.1.symm
    subst hL
    have hnc : n ≤ cap0 := by
      rcases hown.2 with ⟨e, _⟩ | ⟨g', cap, cur, e, _, _, hnc, _⟩
      · cases e
      · injection e with e1 e2 e3
        omega
    have hrun : (Builtin.append_ #[38, 38] o.type #[.slice (some ⟨g, 0, none⟩) n cap0, .slice none 0 c]).run Tryz.prog w = .ok (.slice (some ⟨g, 0, none⟩) n cap0) w := by
      simp [Builtin.append_, run_underlying Tryz.underlying38, sizeOf, typeInfo, hi0, Builtin.lenOf, Builtin.firstCells, hnc, storeCells]
    rw [if_pos (show Region.wanted o (yielded ops a.tmps) = true by simp [Region.wanted, hgd])]
    unfold Oper.wp execOp
    simp only [ho, resolve, invoke, builtin, Sem.run_bind, Sem.run_pure, Result.andThen_ok, List.map_toArray, List.map_cons, List.map_nil, hs, hx, hrun]
    exact h (some ⟨g, 0, none⟩) cap0 w (by simpa [labC] using hown) (World.grownBy.refl w _) (.inl rfl)
  · exact step_app hgd s x 38 ho base 40 i0 (.agg #[.string (str []), .string (str [])]) 2 32 Tryz.underlying38 hi0 hz0 hz1 hz2 rfl (by decide) (.slice (some ⟨g, 0, none⟩) n cap0) n _ hs hown ad m c (labC L) hx (by rw [labC_length, ← hA.1, Nat.mul_comm]) (lAt_all hA) (labC_each L) (by unfold maxLen; omega) (by omega) hbase h
theorem labs_info : (Tryz.prog.info? 38).map (fun i => (i.zero, i.size, i.bytes)) = some (some (.slice none 0 0), 1, 24) := by kernel_rfl
theorem made_labs (w : World) : (w.alloc (.cells #[] 40)).ownsRow 0 40 2 (.slice (some ⟨w.heap.size, 0, none⟩) 0 0) 0 (labC []) :=
  (World.ownsRow_made (e := 40) (size := 2) w #[] 0 (Nat.le_refl _) (by unfold maxLen; omega) rfl).mono (Nat.zero_le _)
theorem grown_drew {w w' : World} {r : Option Nat} (h : w.drew.grownBy w' r) : w.grownBy w' r := ⟨h.os, h.tape, h.output, h.size, h.block⟩
theorem below_inner {w w3 : World} {o : Obj} {g : Nat} (h : World.grownBy (w.alloc o) w3 (some g)) (hg : g = w.heap.size) : Below w.heap.size w w3 :=
  (((Below.refl _ w).alloc (Nat.le_refl _) o).grown h (by simp) (fun k hk => by simp at hk; omega))
theorem new_own {w : World} {v : Value} {o : Obj} (h : v.ownBlock = some w.heap.size ∨ v.ownBlock = some (w.alloc o).heap.size) : ∀ k, v.ownBlock = some k → w.heap.size ≤ k := by
  intro k hk
  rcases h with h | h
  · rw [h] at hk; injection hk with hk; omega
  · rw [h] at hk; injection hk with hk; simp at hk; omega
theorem refX_added {F : List Nat} {p : Nat} {X : Ix} {w w2 w3 : World} {l : List Lab} (h : RefX F p X w) (hok : okL l = true) (hm : l ∉ X) (hX : X.length < 200) {B : Option Addr} {c : Nat} {vs : List Value}
    (h1 : w.heap[p]? = some (.cells #[.slice B X.length c] 47 (0, 0))) (h2 : w.ownsRow 0 38 1 (.slice B X.length c) X.length vs) (h3 : ∀ k, (Value.slice B X.length c).ownBlock = some k → k ∈ F) (h4 : vs.length = X.length)
    (h5 : ∀ (j : Nat) v l, vs[j]? = some v → X[j]? = some l → OwnL F w v l)
    {A1 : Option Addr} {c1 : Nat} (hb : Below w.heap.size w w2) (i1 : w2.ownsRow 0 40 2 (.slice A1 l.length c1) l.length (labC l)) (i3 : ∀ k, (Value.slice A1 l.length c1).ownBlock = some k → w.heap.size ≤ k)
    {A2 : Option Addr} {c2 : Nat} (K2 : Keeps (Value.slice B X.length c).ownBlock.toList w2 w3) (o1 : w3.ownsRow 0 38 1 (.slice A2 (X.length + 1) c2) (X.length + 1) (vs ++ [.slice A1 l.length c1]))
    (o3 : ∀ k, (Value.slice A2 (X.length + 1) c2).ownBlock = some k → (Value.slice B X.length c).ownBlock = some k ∨ w2.heap.size ≤ k) :
    ∃ F', RefX F' p (X ++ [l]) (w3.setCell ⟨p, 0, none⟩ (.slice A2 (X.length + 1) c2)) ∧ Keeps F w (w3.setCell ⟨p, 0, none⟩ (.slice A2 (X.length + 1) c2)) ∧ ∀ k ∈ F', k ∈ F ∨ w.heap.size ≤ k := by
  have K1 : Keeps [] w w2 := Keeps.below hb
  have nB : ∀ k, (Value.slice B X.length c).ownBlock = some k → k ≠ p := row_apart h2 h1 (by decide)
  have p2 := K1.block h1 (by simp)
  have p3 : w3.heap[p]? = some (.cells #[.slice B X.length c] 47 (0, 0)) := K2.block p2 (fun hk => by simp at hk; exact nB p hk rfl)
  have n1 : ∀ k, (Value.slice A1 l.length c1).ownBlock = some k → k ∉ (Value.slice B X.length c).ownBlock.toList := by
    intro k hk hm
    simp at hm
    have := h.lt k (h3 k hm)
    have := i3 k hk
    omega
  have i4 := K2.row i1 n1
  have np1 : (Value.slice A1 l.length c1).ownBlock ≠ some p := fun e => row_apart i4 p3 (by decide) p e rfl
  have np2 : (Value.slice A2 (X.length + 1) c2).ownBlock ≠ some p := fun e => row_apart o1 p3 (by decide) p e rfl
  have KF : Keeps F w w3 := (K1.more (G := F) (by simp)).trans K2 (fun g hg => by simp at hg; exact .inl (h3 g hg))
  have pl : p < w.heap.size := lt_of_block h1
  refine ⟨F ++ ((Value.slice A1 l.length c1).ownBlock.toList ++ (Value.slice A2 (X.length + 1) c2).ownBlock.toList), ⟨?_, ?_, by simp [h.pF], A2, c2, vs ++ [.slice A1 l.length c1], ?_, ?_, ?_, ?_, ?_⟩, KF.setCell (.inl h.pF) _, ?_⟩
  · have := h.good.add l
    unfold addX at this
    rwa [if_pos ⟨hok, hm, hX⟩] at this
  · intro k hk
    have hs : (w3.setCell ⟨p, 0, none⟩ (.slice A2 (X.length + 1) c2)).heap.size = w3.heap.size := by simp [World.setCell]
    rw [hs]
    rcases List.mem_append.1 hk with hk | hk
    · exact Nat.lt_of_lt_of_le (h.lt k hk) KF.size
    · rcases List.mem_append.1 hk with hk | hk
      · exact (i4.lt k (by simpa using hk)).2
      · exact (o1.lt k (by simpa using hk)).2
  · have := blk_set p3 0 (.slice A2 (X.length + 1) c2)
    rw [List.length_append]
    exact this
  · rw [List.length_append]
    exact row_set o1 np2 _
  · intro k hk
    rw [List.length_append] at hk
    exact List.mem_append_right _ (List.mem_append_right _ (by simpa using hk))
  · simp [h4]
  · intro j v m hv hl
    rcases Nat.lt_or_ge j vs.length with hj | hj
    · rw [List.getElem?_append_left hj] at hv
      rw [List.getElem?_append_left (by omega)] at hl
      obtain ⟨Aj, cj, rfl, r1, r2⟩ := h5 j v m hv hl
      have r3 := K1.row r1 (by simp)
      have nj : ∀ k, (Value.slice Aj m.length cj).ownBlock = some k → k ∉ (Value.slice B X.length c).ownBlock.toList := by
        intro k hk hm
        simp at hm
        have h2' := K1.row h2 (by simp)
        rcases h2'.2 with ⟨e, _⟩ | ⟨g, cap, cur, e, _, hh, _⟩
        · rw [e] at hm; simp [Value.ownBlock] at hm
        · rw [e] at hm; simp [Value.ownBlock] at hm
          exact row_apart r3 hh (by decide) k hk hm.symm
      have r4 := K2.row r3 nj
      refine ⟨Aj, cj, rfl, row_set r4 (fun e => row_apart r4 p3 (by decide) p e rfl) _, fun k hk => List.mem_append_left _ (r2 k hk)⟩
    · rw [List.getElem?_append_right hj] at hv
      rw [List.getElem?_append_right (by omega), ← h4] at hl
      obtain ⟨k, hk⟩ : ∃ k, j - vs.length = k := ⟨_, rfl⟩
      rw [hk] at hv hl
      cases k with
      | zero =>
        simp at hv hl
        subst hv hl
        exact ⟨A1, c1, rfl, row_set i4 np1 _, fun k hk => List.mem_append_right _ (List.mem_append_left _ (by simpa using hk))⟩
      | succ k => simp at hv
  · intro k hk
    rcases List.mem_append.1 hk with hk | hk
    · exact .inl hk
    · rcases List.mem_append.1 hk with hk | hk
      · exact .inr (i3 k (by simpa using hk))
      · rcases o3 k (by simpa using hk) with hk | hk
        · exact .inl (h3 k hk)
        · exact .inr (Nat.le_trans hb.size hk)
set_option maxRecDepth 100000 in
set_option maxHeartbeats 1000000 in
theorem refAdd_c (F : List Nat) (p : Nat) (X : Ix) (A : Option Addr) (len cap : Nat) (l : List Lab) (w : World) (h : RefX F p X w) (hA : LAt w A len l) (hl : l.length ≤ 5000) (hz : ∀ x ∈ l, x.1.length ≤ 4096 ∧ x.2.length ≤ 4096) :
    Calls Tryz.prog 15 #[.pointer (some ⟨p, 0, none⟩), .slice A len cap] w fun e w' => ∃ F', e = .returned (.tuple #[.int .i64 (addI X l), .int .i64 (addE X l)]) ∧ RefX F' p (addX X l) w' ∧ Keeps F w w' ∧ ∀ k ∈ F', k ∈ F ∨ w.heap.size ≤ k := by
  have hle := hA.1
  subst hle
  have cc := refCheck_c A l.length cap l w (by omega) hA hz
  cases hok : okL l with
  | false =>
    rw [hok] at cc
    have CC := Lib.hid cc
    have HR := Lib.hid h
    have e3 : addX X l = X := if_neg (by simp [hok])
    have e4 : addI X l = 0 := by unfold addI; rw [hok]; rfl
    have e5 : addE X l = 40 := by unfold addE; rw [hok]; rfl
    rw [e3, e4, e5]
    clear cc h e3 e4 e5
    go_enter Tryz.func15, Tryz.ntmps15
    go_wp2_with fail
    refine CC.out.mono ?_
    rintro e w1 ⟨rfl, hb1⟩
    go_wp2_with fail
    go_ret2
    exact ⟨F, rfl, HR.out.below hb1, Keeps.below hb1, fun k hk => .inl hk⟩
  | true =>
    have h8 := okL_len hok
    rw [hok] at cc
    have cf := fun W (hW : Below w.heap.size w W) => refFind_c F p X A l.length cap l W (h.below hW) (hA.below hW) (by omega)
    by_cases hm : l ∈ X
    · obtain ⟨i, hi⟩ : ∃ i, findX X l = some i := by
        cases hf : findX X l with
        | none => exact absurd hm (findX_none.1 hf)
        | some i => exact ⟨i, rfl⟩
      have e1 : idF X l = (i : Int) := by unfold idF; rw [hi]
      have e2 : isF X l = true := by unfold isF; exact decide_eq_true hm
      have e3 : addX X l = X := addX_mem hm
      have e4 : addI X l = (i : Int) := by unfold addI; rw [if_pos hok, hi]
      have e5 : addE X l = 0 := addE_mem hm hok
      have HR := Lib.hid h
      rw [e1, e2] at cf
      have CC := Lib.hid cc
      have CF := Lib.hid cf
      rw [e3, e4, e5]
      clear cc cf h hA hz e1 e2 e3 e4 e5
      go_enter Tryz.func15, Tryz.ntmps15
      go_wp2_with fail
      refine CC.out.mono ?_
      rintro e w1 ⟨rfl, hb1⟩
      go_wp2_with fail
      refine (CF.out _ hb1).mono ?_
      rintro e w2 ⟨rfl, hb2⟩
      have hb2 := below2 hb1 hb2 hb1.size
      go_wp2_with fail
      go_ret2
      exact ⟨F, rfl, HR.out.below hb2, Keeps.below hb2, fun k hk => .inl hk⟩
    · by_cases hfull : 200 ≤ X.length
      · have e1 : idF X l = -1 := by unfold idF; rw [findX_none.2 hm]
        have e2 : isF X l = false := by unfold isF; exact decide_eq_false hm
        have e3 : addX X l = X := if_neg (by omega)
        have e4 : addI X l = 0 := by unfold addI; rw [if_pos hok, findX_none.2 hm]; exact if_pos hfull
        have e5 : addE X l = 2 := by unfold addE; rw [if_pos hok, if_neg hm, if_pos hfull]
        have HR := Lib.hid h
        rw [e1, e2] at cf
        have CC := Lib.hid cc
        have CF := Lib.hid cf
        rw [e3, e4, e5]
        clear cc cf h hA hz e1 e2 e3 e4 e5
        go_enter Tryz.func15, Tryz.ntmps15
        go_wp2_with fail
        refine CC.out.mono ?_
        rintro e w1 ⟨rfl, hb1⟩
        go_wp2_with fail
        refine (CF.out _ hb1).mono ?_
        rintro e w2 ⟨rfl, hb2⟩
        have hb2 := below2 hb1 hb2 hb1.size
        have HR := Lib.hid (HR.out.below hb2)
        obtain ⟨B, c, h1, h2⟩ := HR.out.at
        have hc := blk_cell h1 0
        simp only [List.getElem?_toArray, List.getElem?_cons_zero] at hc
        have tF : decide (200 ≤ (X.length : Int)) = true := by simpa using by omega
        clear h1 h2
        go_wp2_with fail
        go_ret2
        exact ⟨F, rfl, HR.out, Keeps.below hb2, fun k hk => .inl hk⟩
      · have e1 : idF X l = -1 := by unfold idF; rw [findX_none.2 hm]
        have e2 : isF X l = false := by unfold isF; exact decide_eq_false hm
        rw [e1, e2] at cf
        have CC := Lib.hid cc
        have CF := Lib.hid cf
        have HA := Lib.hid (And.intro h hA)
        clear cc cf h hA hz e1 e2
        go_enter Tryz.func15, Tryz.ntmps15
        go_wp2_with fail
        refine CC.out.mono ?_
        rintro e w1 ⟨rfl, hb1⟩
        go_wp2_with fail
        refine (CF.out _ hb1).mono ?_
        rintro e w2 ⟨rfl, hb2⟩
        have hb2 := below2 hb1 hb2 hb1.size
        have hb2s := hb2.size
        have HR := Lib.hid (HA.out.1.below hb2)
        obtain ⟨B, c, vs, h1, h2, h3, h4, h5⟩ := HR.out.ex
        have hc := blk_cell h1 0
        simp only [List.getElem?_toArray, List.getElem?_cons_zero] at hc
        have hpl := lt_of_block h1
        have HO := Lib.hid (And.intro h1 (And.intro h2 (And.intro h3 (And.intro h4 h5))))
        clear h1 h2 h3 h4 h5
        have tF : decide (200 ≤ (X.length : Int)) = false := by simpa using by omega
        go_wp2_with fail
        have hM := made_labs w2
        have hA2 := HA.out.2.below (hb2.alloc hb2s (.cells #[] 40))
        have HM := Lib.hid (And.intro hM hA2)
        obtain ⟨i0, hi0, hz0, hz1, hz2⟩ := info_parts labs_info
        clear hM hA2
        go_region_law (first
          | (refine step_labs (by rfl) (.tmp 35) (.tmp 36) (by rfl) 0 w2.heap.size 0 0 [] (by rfl) (by exact HM.out.1) A l.length cap l (by rfl) (by exact HM.out.2) (by omega) (Nat.zero_le _) ?_
             intro A1 c1 w3 i1 i2 i3
             rw [Nat.zero_add, List.nil_append] at i1
             rw [Nat.zero_add] at i3 ⊢
             have hb3 : Below w2.heap.size w2 w3 := below_inner (o := .cells #[] 40) (by first | exact i2 | exact grown_drew i2 | exact grown_drew (grown_drew i2)) rfl
             have HI := Lib.hid (And.intro i1 (new_own (o := .cells #[] 40) i3))
             have hp3 : p < w3.heap.size := Nat.lt_of_lt_of_le hpl hb3.size
             have hc3 := (hb3.cell (p := ⟨p, 0, none⟩) hpl).trans hc
             clear i1 i2 i3)
          | (refine step_app (by rfl) (.tmp 34) (.tmp 38) 22 (by rfl) 0 38 i0 (.slice none 0 0) 1 24 Tryz.underlying22 hi0 hz0 hz1 hz2 rfl (by decide) (.slice B X.length c) X.length _ (by rfl) ((Keeps.row (F := []) (Keeps.below hb3) HO.out.2.1 (by simp)).alloc _) ⟨w3.heap.size, 0, none⟩ 1 1 [.slice A1 l.length c1] (by rfl) rfl (cell_one_new _ _ _) (by intro u hu; simp at hu; subst hu; rfl) (by unfold maxLen; omega) (by omega) (Nat.zero_le _) ?_
             intro A2 c2 w4 o1 o2 o3
             have o2' : World.grownBy (w3.alloc (.cells #[.slice A1 l.length c1] 38)) w4 (Value.slice B X.length c).ownBlock := by first | exact o2 | exact grown_drew o2 | exact grown_drew (grown_drew o2)
             have KK : Keeps ((Value.slice B X.length c).ownBlock).toList w3 w4 := ((Keeps.refl _ w3).alloc _).grown o2' (fun k hk => .inl (by simp [hk]))
             have HF := Lib.hid (refX_added HR.out hok hm (by omega) HO.out.1 HO.out.2.1 HO.out.2.2.1 HO.out.2.2.2.1 HO.out.2.2.2.2 hb3 HI.out.1 HI.out.2 KK o1 (by
               intro k hk
               rcases o3 with e | e
               · exact .inl (e ▸ hk)
               · rw [e] at hk; injection hk with hk; right; simp at hk; omega))
             have hp4 := KK.block ((Keeps.below (F := []) hb3).block HO.out.1 (by simp)) (fun hk => by simp at hk; exact row_apart HO.out.2.1 HO.out.1 (by decide) p hk rfl)
             have hc4 := blk_cell hp4 0
             have hf4 := blk_free hp4 0
             simp only [List.getElem?_toArray, List.getElem?_cons_zero] at hc4
             clear o1 o2 o3 o2' KK hp4))
        all_goals
          go_wp2_with fail
          go_ret2
          obtain ⟨F', r1, r2, r3⟩ := HF.out
          have e3 : addX X l = X ++ [l] := if_pos ⟨hok, hm, by omega⟩
          have e4 : addI X l = (X.length : Int) := by unfold addI; rw [if_pos hok, findX_none.2 hm]; exact if_neg hfull
          have e5 : addE X l = 0 := by unfold addE; rw [if_pos hok, if_neg hm, if_neg hfull]
          rw [e3, e4, e5]
          exact ⟨F', rfl, r1, (Keeps.below hb2).trans r2 (fun g hg => .inl hg), fun k hk => (r3 k hk).imp id (fun h => Nat.le_trans hb2s h)⟩
end Go.Proofs.YtdbifbgjbfnfmaaGreatDoor
/-
  Layer 4 (label): labels sorted by their names, those of one name in their order, plain. No program is named.
-/
namespace Go.Proofs.YtdbifbgjbfnfmaaGreatDoor
open Go.RowKit Go.Deep
set_option linter.unusedVariables false

theorem bl_irrefl (a : List UInt8) : Op.bytesLess a a = false := by
  induction a with
  | nil => rfl
  | cons c a ih =>
    have h : (c < c) = False := by simp
    simp only [Op.bytesLess, ih, Bool.and_false, Bool.or_false, h, decide_false]
theorem bl_trans {a b c : List UInt8} (h1 : Op.bytesLess a b = true) (h2 : Op.bytesLess b c = true) : Op.bytesLess a c = true := by
  induction a generalizing b c with
  | nil =>
    cases c with
    | nil => cases b <;> simp [Op.bytesLess] at h1 h2
    | cons z c => simp [Op.bytesLess]
  | cons x a ih =>
    cases b with
    | nil => simp [Op.bytesLess] at h1
    | cons y b =>
      cases c with
      | nil => simp [Op.bytesLess] at h2
      | cons z c =>
        simp only [Op.bytesLess, Bool.or_eq_true, decide_eq_true_eq, Bool.and_eq_true, beq_iff_eq] at *
        rcases h1 with h1 | ⟨rfl, h1⟩
        · rcases h2 with h2 | ⟨rfl, h2⟩
          · left; rw [UInt8.lt_iff_toNat_lt] at *; omega
          · left; exact h1
        · rcases h2 with h2 | ⟨rfl, h2⟩
          · left; exact h2
          · right; exact ⟨rfl, ih h1 h2⟩
/-- One is ahead of the other. -/
def ltN (x y : Lab) : Bool := Op.bytesLess x.1 y.1
theorem ltN_irrefl (x : Lab) : ltN x x = false := bl_irrefl _
theorem ltN_trans {x y z : Lab} (h1 : ltN x y = true) (h2 : ltN y z = true) : ltN x z = true := bl_trans h1 h2
theorem ltN_tri {x y : Lab} (h1 : ltN x y = false) (h2 : ltN y x = false) : x.1 = y.1 := by
  have h := less_trans_like x.1 y.1
  unfold ltN at h1 h2
  rw [h1, h2, Bool.false_or] at h
  simpa using h
theorem ltN_ne {x y : Lab} (h : ltN x y = true) : x.1 ≠ y.1 := fun e => by
  unfold ltN at h; rw [e, bl_irrefl] at h; cases h
theorem ltN_asymm {x y : Lab} (h : ltN x y = true) : ltN y x = false := by
  cases hh : ltN y x with
  | false => rfl
  | true => have := ltN_trans h hh; rw [ltN_irrefl] at this; cases this
theorem ltN_congr {x y z : Lab} (h : x.1 = y.1) : ltN x z = ltN y z ∧ ltN z x = ltN z y := by unfold ltN; rw [h]; exact ⟨rfl, rfl⟩
/-- not (y < x), not (z < y) : not (z < x). -/
theorem leN_trans {x y z : Lab} (h1 : ltN y x = false) (h2 : ltN z y = false) : ltN z x = false := by
  cases h : ltN z x with
  | false => rfl
  | true =>
    cases h3 : ltN x y with
    | true => have := ltN_trans h h3; rw [h2] at this; cases this
    | false => rw [(ltN_congr (ltN_tri h3 h1)).2, h2] at h; cases h
theorem ltN_le {x y z : Lab} (h1 : ltN x y = true) (h2 : ltN z y = false) : ltN x z = true := by
  cases h : ltN x z with
  | true => rfl
  | false =>
    cases h3 : ltN z x with
    | true => have := ltN_trans h3 h1; rw [h2] at this; cases this
    | false => rw [(ltN_congr (ltN_tri h h3)).1, h2] at h1; cases h1
theorem leN_lt {x y z : Lab} (h1 : ltN y x = false) (h2 : ltN y z = true) : ltN x z = true := by
  cases h : ltN x z with
  | true => rfl
  | false =>
    cases h3 : ltN z x with
    | true => have := ltN_trans h2 h3; rw [h1] at this; cases this
    | false => rw [← (ltN_congr (z := y) (ltN_tri h h3)).2, h1] at h2; cases h2
/-- In order. -/
def SortedN (l : List Lab) : Prop := l.Pairwise fun x y => ltN y x = false
/-- Those of each name are the same, in their order. -/
def Stb (l m : List Lab) : Prop := ∀ n, l.filter (fun x => x.1 == n) = m.filter (fun x => x.1 == n)
theorem Stb.refl (l : List Lab) : Stb l l := fun _ => rfl
theorem Stb.symm {l m : List Lab} (h : Stb l m) : Stb m l := fun n => (h n).symm
theorem Stb.trans {l m k : List Lab} (h : Stb l m) (h2 : Stb m k) : Stb l k := fun n => (h n).trans (h2 n)
theorem Stb.append {a b c d : List Lab} (h : Stb a b) (h2 : Stb c d) : Stb (a ++ c) (b ++ d) := fun n => by rw [List.filter_append, List.filter_append, h n, h2 n]
theorem Stb.mem {l m : List Lab} (h : Stb l m) {x : Lab} (hx : x ∈ l) : x ∈ m := by
  have : x ∈ l.filter (fun y => y.1 == x.1) := by simp [hx]
  rw [h] at this
  exact (List.mem_filter.1 this).1
theorem Stb.swap {u v : List Lab} (h : ∀ x ∈ u, ∀ y ∈ v, x.1 ≠ y.1) : Stb (u ++ v) (v ++ u) := fun n => by
  rw [List.filter_append, List.filter_append]
  by_cases hu : u.filter (fun x => x.1 == n) = []
  · rw [hu]; simp
  · have hv : v.filter (fun x => x.1 == n) = [] := by
      obtain ⟨x, hx⟩ := List.exists_mem_of_ne_nil _ hu
      obtain ⟨hx1, hx2⟩ := List.mem_filter.1 hx
      apply List.filter_eq_nil_iff.2
      intro y hy hyn
      simp only [beq_iff_eq] at hx2 hyn
      exact h x hx1 y hy (hx2.trans hyn.symm)
    rw [hv]; simp
/-- Two neighbours of different names change places. -/
theorem Stb.two {x y : Lab} (h : x.1 ≠ y.1) : Stb [x, y] [y, x] := Stb.swap (u := [x]) (v := [y]) (fun a ha b hb => by simp at ha hb; subst ha hb; exact h)
theorem sorted_unique : ∀ (a b : List Lab), SortedN a → SortedN b → Stb a b → a = b
  | [], [], _, _, _ => rfl
  | [], y :: b, _, _, h => by have := h.symm.mem (x := y) (by simp); simp at this
  | x :: a, [], _, _, h => by have := h.mem (x := x) (by simp); simp at this
  | x :: a, y :: b, ha, hb, h => by
    have ha' := List.pairwise_cons.1 ha
    have hb' := List.pairwise_cons.1 hb
    have h1 : ltN y x = false := by
      have hy : y ∈ x :: a := h.symm.mem (by simp)
      rcases List.mem_cons.1 hy with e | hy
      · rw [e]; exact ltN_irrefl x
      · exact ha'.1 y hy
    have h2 : ltN x y = false := by
      have hx : x ∈ y :: b := h.mem (by simp)
      rcases List.mem_cons.1 hx with e | hx
      · rw [e]; exact ltN_irrefl y
      · exact hb'.1 x hx
    have hn := ltN_tri h2 h1
    have hf := h x.1
    simp only [List.filter_cons, beq_self_eq_true, if_true, ← hn] at hf
    injection hf with hxy _
    subst hxy
    congr 1
    apply sorted_unique a b ha'.2 hb'.2
    intro n
    have hf := h n
    by_cases hxn : x.1 = n
    · simp only [List.filter_cons, hxn, beq_self_eq_true, if_true] at hf
      injection hf
    · have : (x.1 == n) = false := by simpa using hxn
      simp only [List.filter_cons, this, Bool.false_eq_true, if_false] at hf
      exact hf
/-- The document's way: one after the other, each ahead of the first that is greater. -/
def ins : List Lab → Lab → List Lab
  | [], x => [x]
  | y :: r, x => if ltN x y = true then x :: y :: r else y :: ins r x
def sortL (l : List Lab) : List Lab := l.foldl ins []
theorem ins_mem {r : List Lab} {x z : Lab} : z ∈ ins r x ↔ z = x ∨ z ∈ r := by
  induction r with
  | nil => simp [ins]
  | cons y r ih =>
    rw [ins]
    split
    · simp
    · simp [ih]; constructor
      · rintro (h | h | h) <;> simp [h]
      · rintro (h | h | h) <;> simp [h]
theorem ins_length (r : List Lab) (x : Lab) : (ins r x).length = r.length + 1 := by
  induction r with
  | nil => rfl
  | cons y r ih => rw [ins]; split <;> simp [ih]
theorem ins_sorted {r : List Lab} {x : Lab} (h : SortedN r) : SortedN (ins r x) := by
  induction r with
  | nil => simp [ins, SortedN]
  | cons y r ih =>
    have h' := List.pairwise_cons.1 h
    rw [ins]
    split
    · rename_i hlt
      refine List.pairwise_cons.2 ⟨fun z hz => ?_, h⟩
      rcases List.mem_cons.1 hz with rfl | hz
      · exact ltN_asymm hlt
      · exact leN_trans (ltN_asymm hlt) (h'.1 z hz)
    · rename_i hlt
      refine List.pairwise_cons.2 ⟨fun z hz => ?_, ih h'.2⟩
      rcases ins_mem.1 hz with rfl | hz
      · simpa using hlt
      · exact h'.1 z hz
theorem ins_stb {r : List Lab} {x : Lab} (h : SortedN r) : Stb (ins r x) (r ++ [x]) := by
  induction r with
  | nil => exact Stb.refl _
  | cons y r ih =>
    have h' := List.pairwise_cons.1 h
    rw [ins]
    split
    · rename_i hlt
      have := Stb.swap (u := [x]) (v := y :: r) (fun u hu z hz => by
        simp at hu; subst hu
        rcases List.mem_cons.1 hz with rfl | hz
        · exact ltN_ne hlt
        · exact ltN_ne (ltN_le hlt (h'.1 z hz)))
      exact this
    · exact Stb.append (Stb.refl [y]) (ih h'.2)
theorem sortL_fold (l : List Lab) : ∀ out, SortedN out → SortedN (l.foldl ins out) ∧ Stb (l.foldl ins out) (out ++ l) ∧ (l.foldl ins out).length = out.length + l.length := by
  induction l with
  | nil => intro out h; exact ⟨h, by simpa using Stb.refl out, by simp⟩
  | cons x l ih =>
    intro out h
    obtain ⟨h1, h2, h3⟩ := ih (ins out x) (ins_sorted h)
    refine ⟨h1, ?_, ?_⟩
    · have := h2.trans ((ins_stb (x := x) h).append (Stb.refl l))
      simpa using this
    · rw [List.foldl_cons, h3, ins_length]; simp; omega
theorem sortL_sorted (l : List Lab) : SortedN (sortL l) := (sortL_fold l [] List.Pairwise.nil).1
theorem sortL_stb (l : List Lab) : Stb (sortL l) l := by unfold sortL; simpa using (sortL_fold l [] List.Pairwise.nil).2.1
theorem sortL_length (l : List Lab) : (sortL l).length = l.length := by unfold sortL; simpa using (sortL_fold l [] List.Pairwise.nil).2.2
theorem sortL_eq {l m : List Lab} (h1 : SortedN m) (h2 : Stb m l) : m = sortL l := sorted_unique _ _ h1 (sortL_sorted l) (h2.trans (sortL_stb l).symm)
theorem sortL_snoc (l : List Lab) (x : Lab) : sortL (l ++ [x]) = ins (sortL l) x := by simp [sortL]
theorem getL_filter (l : List Lab) (n : List UInt8) : getL l n = (match l.filter (fun x => x.1 == n) with | [] => [] | x :: _ => x.2) := by
  induction l with
  | nil => rfl
  | cons x r ih =>
    rw [getL]
    by_cases h : x.1 = n
    · rw [if_pos h]; simp [h]
    · have : (x.1 == n) = false := by simpa using h
      rw [if_neg h, ih, List.filter_cons, this]; rfl
theorem getL_stb {l m : List Lab} (h : Stb l m) (n : List UInt8) : getL l n = getL m n := by rw [getL_filter, getL_filter, h n]
end Go.Proofs.YtdbifbgjbfnfmaaGreatDoor
