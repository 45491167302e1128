/-
  Texts of the same seat, one behind the other (merged; each says at its head what it is).
-/
import Derived.Test.YtdbifbgjbfnfmaaDoorM01
import Derived.Test.YtdbifbgjbfnfmaaDoorM03
import Derived.Deep.Onto
import Derived.Test.YtdbifbgjbfnfmaaDoorRows
import Derived.Outline
import Derived.Deep.OwnRows
import Derived.BigQuiet
import Derived.Deep.QuietTactic
import Derived.Deep.RegionWith
/-
  Layer 7 (index): the document's Add.
-/
namespace Go.Proofs.YtdbifbgjbfnfmaaDoor
open Go.RowKit Go.Deep
set_option linter.unusedVariables false
set_option linter.unusedSimpArgs false
theorem lAt_all {w : World} {ad : Addr} {m : Nat} {L : List Lab} (h : LAt w (some ad) m L) : ∀ j u, (labC L)[j]? = some u → w.cell? (ad.add j) = some u := by
  intro j u hu
  have hj : j < (labC L).length := (List.getElem?_eq_some_iff.1 hu).1
  rw [labC_length] at hj
  obtain ⟨_, ad', had, _, h3, h4⟩ := h.2 (j / 2) (by omega)
  obtain rfl : ad = ad' := by injection had
  have hc := labC_get L (j / 2) (by omega)
  rcases Nat.mod_two_eq_zero_or_one j with e | e
  · have e2 : j = 2 * (j / 2) := by omega
    rw [← e2] at hc
    rw [hc.1] at hu
    rw [show j = j / 2 * 2 by omega, h3]
    exact hu
  · have e2 : j = 2 * (j / 2) + 1 := by omega
    rw [← e2] at hc
    rw [hc.2] at hu
    have ea : ad.add j = ⟨(ad.add (j / 2 * 2)).block, (ad.add (j / 2 * 2)).off + 1, none⟩ := by
      rcases ad with ⟨b, o, s⟩
      have h1 : (⟨b, o, s⟩ : Addr).add j = ⟨b, o + j, none⟩ := by unfold Addr.add; rw [if_neg (show ¬ j = 0 by omega)]
      rw [h1]
      by_cases h0 : j / 2 * 2 = 0
      · rw [h0]; show _ = (⟨b, o + 1, none⟩ : Addr); rw [show j = 1 by omega]
      · have h2 : (⟨b, o, s⟩ : Addr).add (j / 2 * 2) = ⟨b, o + j / 2 * 2, none⟩ := by unfold Addr.add; rw [if_neg h0]
        rw [h2]; show _ = (⟨b, o + j / 2 * 2 + 1, none⟩ : Addr); rw [show o + j / 2 * 2 + 1 = o + j by omega]
    rw [ea, h4]
    exact hu
theorem labC_each (l : List Lab) : ∀ u ∈ labC l, u.oneCell' = true := by
  induction l with
  | nil => intro u hu; simp [labC] at hu
  | cons s r ih =>
    intro u hu
    simp only [labC, List.mem_cons] at hu
    rcases hu with rfl | rfl | hu
    · rfl
    · rfl
    · exact ih u hu
/-- Labels behind a row of the call's own, in a region that draws its order: the source may be nil. -/
theorem step_labs {w : World} {ops : Array Oper} {o : Oper} {a : Act} {K : Act → World → Prop} {Q : Exit → Act → World → Prop} {E : Prop} (hgd : o.guard = none) (s x : Operand)
    (ho : o.op = .call { callee := .builtin .append, args := #[s, x], argTypes := #[23, 23] })
    (base : Nat) (g n cap0 : Nat) (l : List Lab) (hs : a.eval s = .slice (some ⟨g, 0, none⟩) n cap0) (hown : w.ownsRow base 60 2 (.slice (some ⟨g, 0, none⟩) n cap0) n (labC l))
    (A : Option Addr) (m c : Nat) (L : List Lab) (hx : a.eval x = .slice A m c) (hA : LAt w A m L) (h63 : n + m ≤ 10000) (hbase : base ≤ w.heap.size)
    (h : ∀ A' cap' w', w'.ownsRow base 60 2 (.slice A' (n + m) cap') (n + m) (labC (l ++ L)) → w.grownBy w' (some g) → (Value.ownBlock (.slice A' (n + m) cap') = some g ∨ Value.ownBlock (.slice A' (n + m) cap') = some w.heap.size) → K (a.put o.dst (.slice A' (n + m) cap')) w') :
    if Region.wanted o (yielded ops a.tmps) = true then Oper.wp Tryd.prog o a w K Q else E := by
  obtain ⟨i0, hi0, hz0, hz1, hz2⟩ := info_parts lab_info
  rw [labC_append] at h
  rcases A with _ | ad
  · have hm0 : m = 0 := by
      rcases Nat.eq_zero_or_pos m with h0 | h0
      · exact h0
      · obtain ⟨_, ad, e, _⟩ := hA.2 0 (by rw [← hA.1]; exact h0)
        cases e
    subst hm0
    have hL : L = [] := List.eq_nil_of_length_eq_zero hA.1.symm
    subst hL
    have hnc : n ≤ cap0 := by
      rcases hown.2 with ⟨e, _⟩ | ⟨g', cap, cur, e, _, _, hnc, _⟩
      · cases e
      · injection e with e1 e2 e3
        omega
    have hrun : (Builtin.append_ #[23, 23] o.type #[.slice (some ⟨g, 0, none⟩) n cap0, .slice none 0 c]).run Tryd.prog w = .ok (.slice (some ⟨g, 0, none⟩) n cap0) w := by
      simp [Builtin.append_, run_underlying Tryd.underlying23, sizeOf, typeInfo, hi0, Builtin.lenOf, Builtin.firstCells, hnc, storeCells]
    rw [if_pos (show Region.wanted o (yielded ops a.tmps) = true by simp [Region.wanted, hgd])]
    unfold Oper.wp execOp
    simp only [ho, resolve, invoke, builtin, Sem.run_bind, Sem.run_pure, Result.andThen_ok, List.map_toArray, List.map_cons, List.map_nil, hs, hx, hrun]
    exact h (some ⟨g, 0, none⟩) cap0 w (by simpa [labC] using hown) (World.grownBy.refl w _) (.inl rfl)
  · exact step_app hgd s x 23 ho base 60 i0 (.agg #[.string (str []), .string (str [])]) 2 32 Tryd.underlying23 hi0 hz0 hz1 hz2 rfl (by decide) (.slice (some ⟨g, 0, none⟩) n cap0) n _ hs hown ad m c (labC L) hx (by rw [labC_length, ← hA.1, Nat.mul_comm]) (lAt_all hA) (labC_each L) (by unfold maxLen; omega) (by omega) hbase h
theorem labs_info : (Tryd.prog.info? 23).map (fun i => (i.zero, i.size, i.bytes)) = some (some (.slice none 0 0), 1, 24) := by kernel_rfl
theorem made_labs (w : World) : (w.alloc (.cells #[] 60)).ownsRow 0 60 2 (.slice (some ⟨w.heap.size, 0, none⟩) 0 0) 0 (labC []) :=
  (World.ownsRow_made (e := 60) (size := 2) w #[] 0 (Nat.le_refl _) (by unfold maxLen; omega) rfl).mono (Nat.zero_le _)
theorem grown_drew {w w' : World} {r : Option Nat} (h : w.drew.grownBy w' r) : w.grownBy w' r := ⟨h.os, h.tape, h.output, h.size, h.block⟩
theorem below_inner {w w3 : World} {o : Obj} {g : Nat} (h : World.grownBy (w.alloc o) w3 (some g)) (hg : g = w.heap.size) : Below w.heap.size w w3 :=
  (((Below.refl _ w).alloc (Nat.le_refl _) o).grown h (by simp) (fun k hk => by simp at hk; omega))
theorem new_own {w : World} {v : Value} {o : Obj} (h : v.ownBlock = some w.heap.size ∨ v.ownBlock = some (w.alloc o).heap.size) : ∀ k, v.ownBlock = some k → w.heap.size ≤ k := by
  intro k hk
  rcases h with h | h
  · rw [h] at hk; injection hk with hk; omega
  · rw [h] at hk; injection hk with hk; simp at hk; omega
theorem refX_added {F : List Nat} {p : Nat} {X : Ix} {w w2 w3 : World} {l : List Lab} (h : RefX F p X w) (hok : okL l = true) (hm : l ∉ X) (hX : X.length < 200) {B : Option Addr} {c : Nat} {vs : List Value}
    (h1 : w.heap[p]? = some (.cells #[.slice B X.length c] 64 (0, 0))) (h2 : w.ownsRow 0 23 1 (.slice B X.length c) X.length vs) (h3 : ∀ k, (Value.slice B X.length c).ownBlock = some k → k ∈ F) (h4 : vs.length = X.length)
    (h5 : ∀ (j : Nat) v l, vs[j]? = some v → X[j]? = some l → OwnL F w v l)
    {A1 : Option Addr} {c1 : Nat} (hb : Below w.heap.size w w2) (i1 : w2.ownsRow 0 60 2 (.slice A1 l.length c1) l.length (labC l)) (i3 : ∀ k, (Value.slice A1 l.length c1).ownBlock = some k → w.heap.size ≤ k)
    {A2 : Option Addr} {c2 : Nat} (K2 : Keeps (Value.slice B X.length c).ownBlock.toList w2 w3) (o1 : w3.ownsRow 0 23 1 (.slice A2 (X.length + 1) c2) (X.length + 1) (vs ++ [.slice A1 l.length c1]))
    (o3 : ∀ k, (Value.slice A2 (X.length + 1) c2).ownBlock = some k → (Value.slice B X.length c).ownBlock = some k ∨ w2.heap.size ≤ k) :
    ∃ F', RefX F' p (X ++ [l]) (w3.setCell ⟨p, 0, none⟩ (.slice A2 (X.length + 1) c2)) ∧ Keeps F w (w3.setCell ⟨p, 0, none⟩ (.slice A2 (X.length + 1) c2)) ∧ ∀ k ∈ F', k ∈ F ∨ w.heap.size ≤ k := by
  have K1 : Keeps [] w w2 := Keeps.below hb
  have nB : ∀ k, (Value.slice B X.length c).ownBlock = some k → k ≠ p := row_apart h2 h1 (by decide)
  have p2 := K1.block h1 (by simp)
  have p3 : w3.heap[p]? = some (.cells #[.slice B X.length c] 64 (0, 0)) := K2.block p2 (fun hk => by simp at hk; exact nB p hk rfl)
  have n1 : ∀ k, (Value.slice A1 l.length c1).ownBlock = some k → k ∉ (Value.slice B X.length c).ownBlock.toList := by
    intro k hk hm
    simp at hm
    have := h.lt k (h3 k hm)
    have := i3 k hk
    omega
  have i4 := K2.row i1 n1
  have np1 : (Value.slice A1 l.length c1).ownBlock ≠ some p := fun e => row_apart i4 p3 (by decide) p e rfl
  have np2 : (Value.slice A2 (X.length + 1) c2).ownBlock ≠ some p := fun e => row_apart o1 p3 (by decide) p e rfl
  have KF : Keeps F w w3 := (K1.more (G := F) (by simp)).trans K2 (fun g hg => by simp at hg; exact .inl (h3 g hg))
  have pl : p < w.heap.size := lt_of_block h1
  refine ⟨F ++ ((Value.slice A1 l.length c1).ownBlock.toList ++ (Value.slice A2 (X.length + 1) c2).ownBlock.toList), ⟨?_, ?_, by simp [h.pF], A2, c2, vs ++ [.slice A1 l.length c1], ?_, ?_, ?_, ?_, ?_⟩, KF.setCell (.inl h.pF) _, ?_⟩
  · have := h.good.add l
    unfold addX at this
    rwa [if_pos ⟨hok, hm, hX⟩] at this
  · intro k hk
    have hs : (w3.setCell ⟨p, 0, none⟩ (.slice A2 (X.length + 1) c2)).heap.size = w3.heap.size := by simp [World.setCell]
    rw [hs]
    rcases List.mem_append.1 hk with hk | hk
    · exact Nat.lt_of_lt_of_le (h.lt k hk) KF.size
    · rcases List.mem_append.1 hk with hk | hk
      · exact (i4.lt k (by simpa using hk)).2
      · exact (o1.lt k (by simpa using hk)).2
  · have := blk_set p3 0 (.slice A2 (X.length + 1) c2)
    rw [List.length_append]
    exact this
  · rw [List.length_append]
    exact row_set o1 np2 _
  · intro k hk
    rw [List.length_append] at hk
    exact List.mem_append_right _ (List.mem_append_right _ (by simpa using hk))
  · simp [h4]
  · intro j v m hv hl
    rcases Nat.lt_or_ge j vs.length with hj | hj
    · rw [List.getElem?_append_left hj] at hv
      rw [List.getElem?_append_left (by omega)] at hl
      obtain ⟨Aj, cj, rfl, r1, r2⟩ := h5 j v m hv hl
      have r3 := K1.row r1 (by simp)
      have nj : ∀ k, (Value.slice Aj m.length cj).ownBlock = some k → k ∉ (Value.slice B X.length c).ownBlock.toList := by
        intro k hk hm
        simp at hm
        have h2' := K1.row h2 (by simp)
        rcases h2'.2 with ⟨e, _⟩ | ⟨g, cap, cur, e, _, hh, _⟩
        · rw [e] at hm; simp [Value.ownBlock] at hm
        · rw [e] at hm; simp [Value.ownBlock] at hm
          exact row_apart r3 hh (by decide) k hk hm.symm
      have r4 := K2.row r3 nj
      refine ⟨Aj, cj, rfl, row_set r4 (fun e => row_apart r4 p3 (by decide) p e rfl) _, fun k hk => List.mem_append_left _ (r2 k hk)⟩
    · rw [List.getElem?_append_right hj] at hv
      rw [List.getElem?_append_right (by omega), ← h4] at hl
      obtain ⟨k, hk⟩ : ∃ k, j - vs.length = k := ⟨_, rfl⟩
      rw [hk] at hv hl
      cases k with
      | zero =>
        simp at hv hl
        subst hv hl
        exact ⟨A1, c1, rfl, row_set i4 np1 _, fun k hk => List.mem_append_right _ (List.mem_append_left _ (by simpa using hk))⟩
      | succ k => simp at hv
  · intro k hk
    rcases List.mem_append.1 hk with hk | hk
    · exact .inl hk
    · rcases List.mem_append.1 hk with hk | hk
      · exact .inr (i3 k (by simpa using hk))
      · rcases o3 k (by simpa using hk) with hk | hk
        · exact .inl (h3 k hk)
        · exact .inr (Nat.le_trans hb.size hk)
set_option maxRecDepth 100000 in
set_option maxHeartbeats 1000000 in
theorem refAdd_c (F : List Nat) (p : Nat) (X : Ix) (A : Option Addr) (len cap : Nat) (l : List Lab) (w : World) (h : RefX F p X w) (hA : LAt w A len l) (hl : l.length ≤ 5000) (hz : ∀ x ∈ l, x.1.length ≤ 4096 ∧ x.2.length ≤ 4096) :
    Calls Tryd.prog 30 #[.pointer (some ⟨p, 0, none⟩), .slice A len cap] w fun e w' => ∃ F', e = .returned (.tuple #[.int .i64 (addI X l), .int .i64 (addE X l)]) ∧ RefX F' p (addX X l) w' ∧ Keeps F w w' ∧ ∀ k ∈ F', k ∈ F ∨ w.heap.size ≤ k := by
  have hle := hA.1
  subst hle
  have cc := refCheck_c A l.length cap l w (by omega) hA hz
  cases hok : okL l with
  | false =>
    rw [hok] at cc
    have CC := Lib.hid cc
    have HR := Lib.hid h
    have e3 : addX X l = X := if_neg (by simp [hok])
    have e4 : addI X l = 0 := by unfold addI; rw [hok]; rfl
    have e5 : addE X l = 40 := by unfold addE; rw [hok]; rfl
    rw [e3, e4, e5]
    clear cc h e3 e4 e5
    go_enter Tryd.func30, Tryd.ntmps30
    go_wp2_with fail
    refine CC.out.mono ?_
    rintro e w1 ⟨rfl, hb1⟩
    go_wp2_with fail
    go_ret2
    exact ⟨F, rfl, HR.out.below hb1, Keeps.below hb1, fun k hk => .inl hk⟩
  | true =>
    have h8 := okL_len hok
    rw [hok] at cc
    have cf := fun W (hW : Below w.heap.size w W) => refFind_c F p X A l.length cap l W (h.below hW) (hA.below hW) (by omega)
    by_cases hm : l ∈ X
    · obtain ⟨i, hi⟩ : ∃ i, findX X l = some i := by
        cases hf : findX X l with
        | none => exact absurd hm (findX_none.1 hf)
        | some i => exact ⟨i, rfl⟩
      have e1 : idF X l = (i : Int) := by unfold idF; rw [hi]
      have e2 : isF X l = true := by unfold isF; exact decide_eq_true hm
      have e3 : addX X l = X := addX_mem hm
      have e4 : addI X l = (i : Int) := by unfold addI; rw [if_pos hok, hi]
      have e5 : addE X l = 0 := addE_mem hm hok
      have HR := Lib.hid h
      rw [e1, e2] at cf
      have CC := Lib.hid cc
      have CF := Lib.hid cf
      rw [e3, e4, e5]
      clear cc cf h hA hz e1 e2 e3 e4 e5
      go_enter Tryd.func30, Tryd.ntmps30
      go_wp2_with fail
      refine CC.out.mono ?_
      rintro e w1 ⟨rfl, hb1⟩
      go_wp2_with fail
      refine (CF.out _ hb1).mono ?_
      rintro e w2 ⟨rfl, hb2⟩
      have hb2 := below2 hb1 hb2 hb1.size
      go_wp2_with fail
      go_ret2
      exact ⟨F, rfl, HR.out.below hb2, Keeps.below hb2, fun k hk => .inl hk⟩
    · by_cases hfull : 200 ≤ X.length
      · have e1 : idF X l = -1 := by unfold idF; rw [findX_none.2 hm]
        have e2 : isF X l = false := by unfold isF; exact decide_eq_false hm
        have e3 : addX X l = X := if_neg (by omega)
        have e4 : addI X l = 0 := by unfold addI; rw [if_pos hok, findX_none.2 hm]; exact if_pos hfull
        have e5 : addE X l = 2 := by unfold addE; rw [if_pos hok, if_neg hm, if_pos hfull]
        have HR := Lib.hid h
        rw [e1, e2] at cf
        have CC := Lib.hid cc
        have CF := Lib.hid cf
        rw [e3, e4, e5]
        clear cc cf h hA hz e1 e2 e3 e4 e5
        go_enter Tryd.func30, Tryd.ntmps30
        go_wp2_with fail
        refine CC.out.mono ?_
        rintro e w1 ⟨rfl, hb1⟩
        go_wp2_with fail
        refine (CF.out _ hb1).mono ?_
        rintro e w2 ⟨rfl, hb2⟩
        have hb2 := below2 hb1 hb2 hb1.size
        have HR := Lib.hid (HR.out.below hb2)
        obtain ⟨B, c, h1, h2⟩ := HR.out.at
        have hc := blk_cell h1 0
        simp only [List.getElem?_toArray, List.getElem?_cons_zero] at hc
        have tF : decide (200 ≤ (X.length : Int)) = true := by simpa using by omega
        clear h1 h2
        go_wp2_with fail
        go_ret2
        exact ⟨F, rfl, HR.out, Keeps.below hb2, fun k hk => .inl hk⟩
      · have e1 : idF X l = -1 := by unfold idF; rw [findX_none.2 hm]
        have e2 : isF X l = false := by unfold isF; exact decide_eq_false hm
        rw [e1, e2] at cf
        have CC := Lib.hid cc
        have CF := Lib.hid cf
        have HA := Lib.hid (And.intro h hA)
        clear cc cf h hA hz e1 e2
        go_enter Tryd.func30, Tryd.ntmps30
        go_wp2_with fail
        refine CC.out.mono ?_
        rintro e w1 ⟨rfl, hb1⟩
        go_wp2_with fail
        refine (CF.out _ hb1).mono ?_
        rintro e w2 ⟨rfl, hb2⟩
        have hb2 := below2 hb1 hb2 hb1.size
        have hb2s := hb2.size
        have HR := Lib.hid (HA.out.1.below hb2)
        obtain ⟨B, c, vs, h1, h2, h3, h4, h5⟩ := HR.out.ex
        have hc := blk_cell h1 0
        simp only [List.getElem?_toArray, List.getElem?_cons_zero] at hc
        have hpl := lt_of_block h1
        have HO := Lib.hid (And.intro h1 (And.intro h2 (And.intro h3 (And.intro h4 h5))))
        clear h1 h2 h3 h4 h5
        have tF : decide (200 ≤ (X.length : Int)) = false := by simpa using by omega
        go_wp2_with fail
        have hM := made_labs w2
        have hA2 := HA.out.2.below (hb2.alloc hb2s (.cells #[] 60))
        have HM := Lib.hid (And.intro hM hA2)
        obtain ⟨i0, hi0, hz0, hz1, hz2⟩ := info_parts labs_info
        clear hM hA2
        go_region_law (first
          | (refine step_labs (by rfl) (.tmp 35) (.tmp 36) (by rfl) 0 w2.heap.size 0 0 [] (by rfl) (by exact HM.out.1) A l.length cap l (by rfl) (by exact HM.out.2) (by omega) (Nat.zero_le _) ?_
             intro A1 c1 w3 i1 i2 i3
             rw [Nat.zero_add, List.nil_append] at i1
             rw [Nat.zero_add] at i3 ⊢
             have hb3 : Below w2.heap.size w2 w3 := below_inner (o := .cells #[] 60) (by first | exact i2 | exact grown_drew i2 | exact grown_drew (grown_drew i2)) rfl
             have HI := Lib.hid (And.intro i1 (new_own (o := .cells #[] 60) i3))
             have hp3 : p < w3.heap.size := Nat.lt_of_lt_of_le hpl hb3.size
             have hc3 := (hb3.cell (p := ⟨p, 0, none⟩) hpl).trans hc
             clear i1 i2 i3)
          | (refine step_app (by rfl) (.tmp 34) (.tmp 38) 22 (by rfl) 0 23 i0 (.slice none 0 0) 1 24 Tryd.underlying22 hi0 hz0 hz1 hz2 rfl (by decide) (.slice B X.length c) X.length _ (by rfl) ((Keeps.row (F := []) (Keeps.below hb3) HO.out.2.1 (by simp)).alloc _) ⟨w3.heap.size, 0, none⟩ 1 1 [.slice A1 l.length c1] (by rfl) rfl (cell_one_new _ _ _) (by intro u hu; simp at hu; subst hu; rfl) (by unfold maxLen; omega) (by omega) (Nat.zero_le _) ?_
             intro A2 c2 w4 o1 o2 o3
             have o2' : World.grownBy (w3.alloc (.cells #[.slice A1 l.length c1] 23)) w4 (Value.slice B X.length c).ownBlock := by first | exact o2 | exact grown_drew o2 | exact grown_drew (grown_drew o2)
             have KK : Keeps ((Value.slice B X.length c).ownBlock).toList w3 w4 := ((Keeps.refl _ w3).alloc _).grown o2' (fun k hk => .inl (by simp [hk]))
             have HF := Lib.hid (refX_added HR.out hok hm (by omega) HO.out.1 HO.out.2.1 HO.out.2.2.1 HO.out.2.2.2.1 HO.out.2.2.2.2 hb3 HI.out.1 HI.out.2 KK o1 (by
               intro k hk
               rcases o3 with e | e
               · exact .inl (e ▸ hk)
               · rw [e] at hk; injection hk with hk; right; simp at hk; omega))
             have hp4 := KK.block ((Keeps.below (F := []) hb3).block HO.out.1 (by simp)) (fun hk => by simp at hk; exact row_apart HO.out.2.1 HO.out.1 (by decide) p hk rfl)
             have hc4 := blk_cell hp4 0
             have hf4 := blk_free hp4 0
             simp only [List.getElem?_toArray, List.getElem?_cons_zero] at hc4
             clear o1 o2 o3 o2' KK hp4))
        all_goals
          go_wp2_with fail
          go_ret2
          obtain ⟨F', r1, r2, r3⟩ := HF.out
          have e3 : addX X l = X ++ [l] := if_pos ⟨hok, hm, by omega⟩
          have e4 : addI X l = (X.length : Int) := by unfold addI; rw [if_pos hok, findX_none.2 hm]; exact if_neg hfull
          have e5 : addE X l = 0 := by unfold addE; rw [if_pos hok, if_neg hm, if_neg hfull]
          rw [e3, e4, e5]
          exact ⟨F', rfl, r1, (Keeps.below hb2).trans r2 (fun g hg => .inl hg), fun k hk => (r3 k hk).imp id (fun h => Nat.le_trans hb2s h)⟩
end Go.Proofs.YtdbifbgjbfnfmaaDoor
/-
  Layer 4 (label): labels sorted by their names, those of one name in their order, plain. No program is named.
-/
namespace Go.Proofs.YtdbifbgjbfnfmaaDoor
open Go.RowKit Go.Deep
set_option linter.unusedVariables false

theorem bl_irrefl (a : List UInt8) : Op.bytesLess a a = false := by
  induction a with
  | nil => rfl
  | cons c a ih =>
    have h : (c < c) = False := by simp
    simp only [Op.bytesLess, ih, Bool.and_false, Bool.or_false, h, decide_false]
theorem bl_trans {a b c : List UInt8} (h1 : Op.bytesLess a b = true) (h2 : Op.bytesLess b c = true) : Op.bytesLess a c = true := by
  induction a generalizing b c with
  | nil =>
    cases c with
    | nil => cases b <;> simp [Op.bytesLess] at h1 h2
    | cons z c => simp [Op.bytesLess]
  | cons x a ih =>
    cases b with
    | nil => simp [Op.bytesLess] at h1
    | cons y b =>
      cases c with
      | nil => simp [Op.bytesLess] at h2
      | cons z c =>
        simp only [Op.bytesLess, Bool.or_eq_true, decide_eq_true_eq, Bool.and_eq_true, beq_iff_eq] at *
        rcases h1 with h1 | ⟨rfl, h1⟩
        · rcases h2 with h2 | ⟨rfl, h2⟩
          · left; rw [UInt8.lt_iff_toNat_lt] at *; omega
          · left; exact h1
        · rcases h2 with h2 | ⟨rfl, h2⟩
          · left; exact h2
          · right; exact ⟨rfl, ih h1 h2⟩
/-- One is ahead of the other. -/
def ltN (x y : Lab) : Bool := Op.bytesLess x.1 y.1
theorem ltN_irrefl (x : Lab) : ltN x x = false := bl_irrefl _
theorem ltN_trans {x y z : Lab} (h1 : ltN x y = true) (h2 : ltN y z = true) : ltN x z = true := bl_trans h1 h2
theorem ltN_tri {x y : Lab} (h1 : ltN x y = false) (h2 : ltN y x = false) : x.1 = y.1 := by
  have h := less_trans_like x.1 y.1
  unfold ltN at h1 h2
  rw [h1, h2, Bool.false_or] at h
  simpa using h
theorem ltN_ne {x y : Lab} (h : ltN x y = true) : x.1 ≠ y.1 := fun e => by
  unfold ltN at h; rw [e, bl_irrefl] at h; cases h
theorem ltN_asymm {x y : Lab} (h : ltN x y = true) : ltN y x = false := by
  cases hh : ltN y x with
  | false => rfl
  | true => have := ltN_trans h hh; rw [ltN_irrefl] at this; cases this
theorem ltN_congr {x y z : Lab} (h : x.1 = y.1) : ltN x z = ltN y z ∧ ltN z x = ltN z y := by unfold ltN; rw [h]; exact ⟨rfl, rfl⟩
/-- not (y < x), not (z < y) : not (z < x). -/
theorem leN_trans {x y z : Lab} (h1 : ltN y x = false) (h2 : ltN z y = false) : ltN z x = false := by
  cases h : ltN z x with
  | false => rfl
  | true =>
    cases h3 : ltN x y with
    | true => have := ltN_trans h h3; rw [h2] at this; cases this
    | false => rw [(ltN_congr (ltN_tri h3 h1)).2, h2] at h; cases h
theorem ltN_le {x y z : Lab} (h1 : ltN x y = true) (h2 : ltN z y = false) : ltN x z = true := by
  cases h : ltN x z with
  | true => rfl
  | false =>
    cases h3 : ltN z x with
    | true => have := ltN_trans h3 h1; rw [h2] at this; cases this
    | false => rw [(ltN_congr (ltN_tri h h3)).1, h2] at h1; cases h1
theorem leN_lt {x y z : Lab} (h1 : ltN y x = false) (h2 : ltN y z = true) : ltN x z = true := by
  cases h : ltN x z with
  | true => rfl
  | false =>
    cases h3 : ltN z x with
    | true => have := ltN_trans h2 h3; rw [h1] at this; cases this
    | false => rw [← (ltN_congr (z := y) (ltN_tri h h3)).2, h1] at h2; cases h2
/-- In order. -/
def SortedN (l : List Lab) : Prop := l.Pairwise fun x y => ltN y x = false
/-- Those of each name are the same, in their order. -/
def Stb (l m : List Lab) : Prop := ∀ n, l.filter (fun x => x.1 == n) = m.filter (fun x => x.1 == n)
theorem Stb.refl (l : List Lab) : Stb l l := fun _ => rfl
theorem Stb.symm {l m : List Lab} (h : Stb l m) : Stb m l := fun n => (h n).symm
theorem Stb.trans {l m k : List Lab} (h : Stb l m) (h2 : Stb m k) : Stb l k := fun n => (h n).trans (h2 n)
theorem Stb.append {a b c d : List Lab} (h : Stb a b) (h2 : Stb c d) : Stb (a ++ c) (b ++ d) := fun n => by rw [List.filter_append, List.filter_append, h n, h2 n]
theorem Stb.mem {l m : List Lab} (h : Stb l m) {x : Lab} (hx : x ∈ l) : x ∈ m := by
  have : x ∈ l.filter (fun y => y.1 == x.1) := by simp [hx]
  rw [h] at this
  exact (List.mem_filter.1 this).1
theorem Stb.swap {u v : List Lab} (h : ∀ x ∈ u, ∀ y ∈ v, x.1 ≠ y.1) : Stb (u ++ v) (v ++ u) := fun n => by
  rw [List.filter_append, List.filter_append]
  by_cases hu : u.filter (fun x => x.1 == n) = []
  · rw [hu]; simp
  · have hv : v.filter (fun x => x.1 == n) = [] := by
      obtain ⟨x, hx⟩ := List.exists_mem_of_ne_nil _ hu
      obtain ⟨hx1, hx2⟩ := List.mem_filter.1 hx
      apply List.filter_eq_nil_iff.2
      intro y hy hyn
      simp only [beq_iff_eq] at hx2 hyn
      exact h x hx1 y hy (hx2.trans hyn.symm)
    rw [hv]; simp
/-- Two neighbours of different names change places. -/
theorem Stb.two {x y : Lab} (h : x.1 ≠ y.1) : Stb [x, y] [y, x] := Stb.swap (u := [x]) (v := [y]) (fun a ha b hb => by simp at ha hb; subst ha hb; exact h)
theorem sorted_unique : ∀ (a b : List Lab), SortedN a → SortedN b → Stb a b → a = b
  | [], [], _, _, _ => rfl
  | [], y :: b, _, _, h => by have := h.symm.mem (x := y) (by simp); simp at this
  | x :: a, [], _, _, h => by have := h.mem (x := x) (by simp); simp at this
  | x :: a, y :: b, ha, hb, h => by
    have ha' := List.pairwise_cons.1 ha
    have hb' := List.pairwise_cons.1 hb
    have h1 : ltN y x = false := by
      have hy : y ∈ x :: a := h.symm.mem (by simp)
      rcases List.mem_cons.1 hy with e | hy
      · rw [e]; exact ltN_irrefl x
      · exact ha'.1 y hy
    have h2 : ltN x y = false := by
      have hx : x ∈ y :: b := h.mem (by simp)
      rcases List.mem_cons.1 hx with e | hx
      · rw [e]; exact ltN_irrefl y
      · exact hb'.1 x hx
    have hn := ltN_tri h2 h1
    have hf := h x.1
    simp only [List.filter_cons, beq_self_eq_true, if_true, ← hn] at hf
    injection hf with hxy _
    subst hxy
    congr 1
    apply sorted_unique a b ha'.2 hb'.2
    intro n
    have hf := h n
    by_cases hxn : x.1 = n
    · simp only [List.filter_cons, hxn, beq_self_eq_true, if_true] at hf
      injection hf
    · have : (x.1 == n) = false := by simpa using hxn
      simp only [List.filter_cons, this, Bool.false_eq_true, if_false] at hf
      exact hf
/-- The document's way: one after the other, each ahead of the first that is greater. -/
def ins : List Lab → Lab → List Lab
  | [], x => [x]
  | y :: r, x => if ltN x y = true then x :: y :: r else y :: ins r x
def sortL (l : List Lab) : List Lab := l.foldl ins []
theorem ins_mem {r : List Lab} {x z : Lab} : z ∈ ins r x ↔ z = x ∨ z ∈ r := by
  induction r with
  | nil => simp [ins]
  | cons y r ih =>
    rw [ins]
    split
    · simp
    · simp [ih]; constructor
      · rintro (h | h | h) <;> simp [h]
      · rintro (h | h | h) <;> simp [h]
theorem ins_length (r : List Lab) (x : Lab) : (ins r x).length = r.length + 1 := by
  induction r with
  | nil => rfl
  | cons y r ih => rw [ins]; split <;> simp [ih]
theorem ins_sorted {r : List Lab} {x : Lab} (h : SortedN r) : SortedN (ins r x) := by
  induction r with
  | nil => simp [ins, SortedN]
  | cons y r ih =>
    have h' := List.pairwise_cons.1 h
    rw [ins]
    split
    · rename_i hlt
      refine List.pairwise_cons.2 ⟨fun z hz => ?_, h⟩
      rcases List.mem_cons.1 hz with rfl | hz
      · exact ltN_asymm hlt
      · exact leN_trans (ltN_asymm hlt) (h'.1 z hz)
    · rename_i hlt
      refine List.pairwise_cons.2 ⟨fun z hz => ?_, ih h'.2⟩
      rcases ins_mem.1 hz with rfl | hz
      · simpa using hlt
      · exact h'.1 z hz
theorem ins_stb {r : List Lab} {x : Lab} (h : SortedN r) : Stb (ins r x) (r ++ [x]) := by
  induction r with
  | nil => exact Stb.refl _
  | cons y r ih =>
    have h' := List.pairwise_cons.1 h
    rw [ins]
    split
    · rename_i hlt
      have := Stb.swap (u := [x]) (v := y :: r) (fun u hu z hz => by
        simp at hu; subst hu
        rcases List.mem_cons.1 hz with rfl | hz
        · exact ltN_ne hlt
        · exact ltN_ne (ltN_le hlt (h'.1 z hz)))
      exact this
    · exact Stb.append (Stb.refl [y]) (ih h'.2)
theorem sortL_fold (l : List Lab) : ∀ out, SortedN out → SortedN (l.foldl ins out) ∧ Stb (l.foldl ins out) (out ++ l) ∧ (l.foldl ins out).length = out.length + l.length := by
  induction l with
  | nil => intro out h; exact ⟨h, by simpa using Stb.refl out, by simp⟩
  | cons x l ih =>
    intro out h
    obtain ⟨h1, h2, h3⟩ := ih (ins out x) (ins_sorted h)
    refine ⟨h1, ?_, ?_⟩
    · have := h2.trans ((ins_stb (x := x) h).append (Stb.refl l))
      simpa using this
    · rw [List.foldl_cons, h3, ins_length]; simp; omega
theorem sortL_sorted (l : List Lab) : SortedN (sortL l) := (sortL_fold l [] List.Pairwise.nil).1
theorem sortL_stb (l : List Lab) : Stb (sortL l) l := by unfold sortL; simpa using (sortL_fold l [] List.Pairwise.nil).2.1
theorem sortL_length (l : List Lab) : (sortL l).length = l.length := by unfold sortL; simpa using (sortL_fold l [] List.Pairwise.nil).2.2
theorem sortL_eq {l m : List Lab} (h1 : SortedN m) (h2 : Stb m l) : m = sortL l := sorted_unique _ _ h1 (sortL_sorted l) (h2.trans (sortL_stb l).symm)
theorem sortL_snoc (l : List Lab) (x : Lab) : sortL (l ++ [x]) = ins (sortL l) x := by simp [sortL]
theorem getL_filter (l : List Lab) (n : List UInt8) : getL l n = (match l.filter (fun x => x.1 == n) with | [] => [] | x :: _ => x.2) := by
  induction l with
  | nil => rfl
  | cons x r ih =>
    rw [getL]
    by_cases h : x.1 = n
    · rw [if_pos h]; simp [h]
    · have : (x.1 == n) = false := by simpa using h
      rw [if_neg h, ih, List.filter_cons, this]; rfl
theorem getL_stb {l m : List Lab} (h : Stb l m) (n : List UInt8) : getL l n = getL m n := by rw [getL_filter, getL_filter, h n]
end Go.Proofs.YtdbifbgjbfnfmaaDoor
/-
  Layer 7 (index): texts that rise, each once; names and values of series, plain. No program is named.
-/
namespace Go.Proofs.YtdbifbgjbfnfmaaDoor
set_option linter.unusedVariables false
set_option linter.unusedSimpArgs false
abbrev Txt := List UInt8
abbrev Lt (a b : Txt) : Prop := Op.bytesLess a b = true
abbrev UpT (l : List Txt) : Prop := l.Pairwise Lt
theorem lt_tri (a b : Txt) : Lt a b ∨ a = b ∨ Lt b a := by
  have h := less_trans_like a b
  by_cases h1 : Op.bytesLess a b = true
  · exact .inl h1
  · by_cases h2 : a = b
    · exact .inr (.inl h2)
    · right; right
      show Op.bytesLess b a = true
      rw [← h, Bool.eq_false_iff.2 h1]
      simp [h2]
theorem lt_not {a b : Txt} (h : Lt a b) : ¬ Lt b a := fun k => by
  have := bl_trans h k
  rw [bl_irrefl] at this
  cases this
theorem lt_ne {a b : Txt} (h : Lt a b) : a ≠ b := by
  rintro rfl
  have k : Op.bytesLess a a = true := h
  rw [bl_irrefl] at k
  cases k
/-- Texts that rise and are the same set are the same. -/
theorem upT_ext : ∀ {a b : List Txt}, UpT a → UpT b → (∀ x, x ∈ a ↔ x ∈ b) → a = b := by
  intro a
  induction a with
  | nil => intro b _ _ h; match b with
    | [] => rfl
    | y :: b => have := (h y).2 (by simp); simp at this
  | cons x a ih =>
    intro b ha hb h
    match b with
    | [] => have := (h x).1 (by simp); simp at this
    | y :: b =>
      rw [UpT, List.pairwise_cons] at ha hb
      have hxy : x = y := by
        have h1 := (h x).1 (by simp)
        have h2 := (h y).2 (by simp)
        rcases List.mem_cons.1 h1 with e | h1
        · exact e
        · rcases List.mem_cons.1 h2 with e | h2
          · exact e.symm
          · exact absurd (hb.1 x h1) (lt_not (ha.1 y h2))
      subst hxy
      rw [ih ha.2 hb.2 fun z => ?_]
      have h0 := h z
      have h3 : x ∉ a := fun hm => lt_ne (ha.1 x hm) rfl
      have h4 : x ∉ b := fun hm => lt_ne (hb.1 x hm) rfl
      by_cases e : z = x
      · subst e; simp [h3, h4]
      · simpa [e] using h0
/-- A text put among others that rise. -/
def putT : List Txt → Txt → List Txt
  | [], s => [s]
  | x :: r, s => if x = s then x :: r else if Op.bytesLess s x = true then s :: x :: r else x :: putT r s
theorem mem_putT (l : List Txt) (s : Txt) : ∀ x, x ∈ putT l s ↔ x = s ∨ x ∈ l := by
  induction l with
  | nil => intro x; simp [putT]
  | cons y r ih =>
    intro x
    unfold putT
    split
    · rename_i h; subst h; simp
    · split
      · simp
      · rw [List.mem_cons, ih]; simp only [List.mem_cons]; constructor
        · rintro (h | h | h) <;> simp [h]
        · rintro (h | h | h) <;> simp [h]
theorem up_putT (l : List Txt) (s : Txt) : UpT l → UpT (putT l s) := by
  induction l with
  | nil => intro _; simp [putT]
  | cons y r ih =>
    intro h
    have h0 := h
    rw [UpT, List.pairwise_cons] at h
    unfold putT
    split
    · exact h0
    · rename_i hne
      split
      · rename_i hlt
        rw [UpT, List.pairwise_cons]
        refine ⟨fun z hz => ?_, h0⟩
        rcases List.mem_cons.1 hz with rfl | hz
        · exact hlt
        · exact bl_trans hlt (h.1 z hz)
      · rename_i hlt
        rw [UpT, List.pairwise_cons]
        refine ⟨fun z hz => ?_, ih h.2⟩
        rcases (mem_putT r s z).1 hz with rfl | hz
        · rcases lt_tri y z with k | k | k
          · exact k
          · exact absurd k hne
          · exact absurd k hlt
        · exact h.1 z hz
theorem len_putT (l : List Txt) (s : Txt) : (putT l s).length ≤ l.length + 1 := by
  induction l with
  | nil => simp [putT]
  | cons y r ih => unfold putT; split
                   · simp
                   · split
                     · simp
                     · simp; omega
theorem putT_here {l : List Txt} {s : Txt} (hl : UpT l) (hs : s ∈ l) : putT l s = l := by
  refine upT_ext (up_putT _ _ hl) hl fun x => ?_
  rw [mem_putT]
  exact ⟨fun h => h.elim (fun e => e ▸ hs) id, .inr⟩
/-- s stands ahead of all that is left. -/
theorem putT_low {l : List Txt} {s : Txt} (hl : ∀ x ∈ l, Lt s x) : putT l s = s :: l := by
  cases l with
  | nil => rfl
  | cons y r =>
    have h := hl y (by simp)
    unfold putT
    rw [if_neg (lt_ne h).symm, if_pos h]
theorem putT_far {l r : List Txt} {s : Txt} (hl : ∀ x ∈ l, Lt x s) : putT (l ++ r) s = l ++ putT r s := by
  induction l with
  | nil => rfl
  | cons y l ih =>
    have h := hl y (by simp)
    rw [List.cons_append, putT, if_neg (lt_ne h), if_neg (lt_not h), ih (fun x hx => hl x (by simp [hx])), List.cons_append]
/-! names and values -/
def IsNames (X : Ix) (R : List Txt) : Prop := UpT R ∧ ∀ n, n ∈ R ↔ ∃ l ∈ X, ∃ x ∈ l, x.1 = n
def IsValues (X : Ix) (name : Txt) (R : List Txt) : Prop := UpT R ∧ ∀ v, v ∈ R ↔ v ≠ [] ∧ ∃ l ∈ X, getL l name = v
theorem IsNames.one {X : Ix} {R S : List Txt} (h : IsNames X R) (k : IsNames X S) : R = S := upT_ext h.1 k.1 fun x => by rw [h.2, k.2]
theorem IsValues.one {X : Ix} {name : Txt} {R S : List Txt} (h : IsValues X name R) (k : IsValues X name S) : R = S := upT_ext h.1 k.1 fun x => by rw [h.2, k.2]
/-- The names of series ahead of i, and of the first k labels of the i-th. -/
def names1 (acc : List Txt) (l : List Lab) : List Txt := l.foldl (fun a x => putT a x.1) acc
def namesX (X : Ix) : List Txt := X.foldl names1 []
theorem names1_take (acc : List Txt) (l : List Lab) (k : Nat) (h : k < l.length) : names1 acc (l.take (k + 1)) = putT (names1 acc (l.take k)) l[k].1 := by
  unfold names1; rw [List.take_succ_eq_append_getElem h, List.foldl_append]; rfl
theorem namesX_take (X : Ix) (i : Nat) (h : i < X.length) : namesX (X.take (i + 1)) = names1 (namesX (X.take i)) X[i] := by
  unfold namesX; rw [List.take_succ_eq_append_getElem h, List.foldl_append]; rfl
theorem names1_is (l : List Lab) : ∀ acc, UpT acc → UpT (names1 acc l) ∧ (∀ n, n ∈ names1 acc l ↔ n ∈ acc ∨ ∃ x ∈ l, x.1 = n) ∧ (names1 acc l).length ≤ acc.length + l.length := by
  induction l with
  | nil => intro acc h; exact ⟨h, fun n => by simp [names1], by simp [names1]⟩
  | cons x l ih =>
    intro acc h
    have := ih (putT acc x.1) (up_putT _ _ h)
    have hl := len_putT acc x.1
    refine ⟨this.1, fun n => ?_, ?_⟩
    · have h2 := this.2.1 n
      unfold names1 at h2 ⊢
      rw [List.foldl_cons, h2, mem_putT]
      simp only [List.mem_cons, exists_eq_or_imp]
      grind
    · have h3 := this.2.2
      unfold names1 at h3 ⊢
      rw [List.foldl_cons, List.length_cons]
      omega
theorem namesX_is (X : Ix) (h8 : ∀ l ∈ X, l.length ≤ 8) : IsNames X (namesX X) ∧ (namesX X).length ≤ 8 * X.length := by
  have key : ∀ (Y : Ix) acc, UpT acc → (∀ l ∈ Y, l.length ≤ 8) → UpT (Y.foldl names1 acc) ∧ (∀ n, n ∈ Y.foldl names1 acc ↔ n ∈ acc ∨ ∃ l ∈ Y, ∃ x ∈ l, x.1 = n) ∧ (Y.foldl names1 acc).length ≤ acc.length + 8 * Y.length := by
    intro Y
    induction Y with
    | nil => intro acc h _; exact ⟨h, fun n => by simp, by simp⟩
    | cons l Y ih =>
      intro acc h h8
      have h1 := names1_is l acc h
      have h2 := ih (names1 acc l) h1.1 (fun m hm => h8 m (by simp [hm]))
      have h3 := h8 l (by simp)
      refine ⟨h2.1, fun n => ?_, ?_⟩
      · rw [List.foldl_cons, h2.2.1, h1.2.1]
        simp only [List.mem_cons, exists_eq_or_imp, or_assoc]
      · have := h2.2.2
        have := h1.2.2
        rw [List.foldl_cons, List.length_cons]
        omega
  have := key X [] (by simp) h8
  exact ⟨⟨this.1, fun n => by rw [namesX, this.2.1]; simp⟩, by simpa [namesX] using this.2.2⟩
def val1 (name : Txt) (acc : List Txt) (l : List Lab) : List Txt := if getL l name = [] then acc else putT acc (getL l name)
def valuesX (X : Ix) (name : Txt) : List Txt := X.foldl (val1 name) []
theorem valuesX_take (X : Ix) (name : Txt) (i : Nat) (h : i < X.length) : valuesX (X.take (i + 1)) name = val1 name (valuesX (X.take i) name) X[i] := by
  unfold valuesX; rw [List.take_succ_eq_append_getElem h, List.foldl_append]; rfl
theorem valuesX_is (X : Ix) (name : Txt) : IsValues X name (valuesX X name) ∧ (valuesX X name).length ≤ X.length := by
  have key : ∀ (Y : Ix) acc, UpT acc → UpT (Y.foldl (val1 name) acc) ∧ (∀ v, v ∈ Y.foldl (val1 name) acc ↔ v ∈ acc ∨ (v ≠ [] ∧ ∃ l ∈ Y, getL l name = v)) ∧ (Y.foldl (val1 name) acc).length ≤ acc.length + Y.length := by
    intro Y
    induction Y with
    | nil => intro acc h; exact ⟨h, fun n => by simp, by simp⟩
    | cons l Y ih =>
      intro acc h
      have h1 : UpT (val1 name acc l) ∧ (∀ v, v ∈ val1 name acc l ↔ v ∈ acc ∨ (v ≠ [] ∧ getL l name = v)) ∧ (val1 name acc l).length ≤ acc.length + 1 := by
        unfold val1
        split
        · rename_i e
          exact ⟨h, fun v => by rw [e]; constructor
                                · exact .inl
                                · rintro (h | ⟨h1, h2⟩)
                                  · exact h
                                  · exact absurd h2.symm h1, by omega⟩
        · rename_i e
          refine ⟨up_putT _ _ h, fun v => ?_, len_putT _ _⟩
          rw [mem_putT]
          constructor
          · rintro (rfl | h)
            · exact .inr ⟨e, rfl⟩
            · exact .inl h
          · rintro (h | ⟨_, rfl⟩)
            · exact .inr h
            · exact .inl rfl
      have h2 := ih (val1 name acc l) h1.1
      refine ⟨h2.1, fun n => ?_, ?_⟩
      · rw [List.foldl_cons, h2.2.1, h1.2.1]
        simp only [List.mem_cons, exists_eq_or_imp]
        grind
      · have := h2.2.2
        have := h1.2.2
        rw [List.foldl_cons, List.length_cons]
        omega
  have := key X [] (by simp)
  exact ⟨⟨this.1, fun n => by rw [valuesX, this.2.1]; simp⟩, by simpa [valuesX] using this.2.2⟩
end Go.Proofs.YtdbifbgjbfnfmaaDoor
/-
  Layer 7 (index): what bytes are an index's, plain. No program is named.
-/
namespace Go.Proofs.YtdbifbgjbfnfmaaDoor
set_option linter.unusedVariables false
set_option linter.unusedSimpArgs false
/-- An integer's bytes, at any place. -/
theorem getU_at {l : List UInt8} {a : Nat} {v nx : Int} (h : getU l a = (v, nx, 0)) : ∃ n k : Nat, v = n ∧ nx = k ∧ a ≤ k ∧ k ≤ l.length ∧ n < 18446744073709551616 ∧ l.take k = l.take a ++ uv n := by
  have hr := getU_range h
  unfold getU at h
  rw [Int.toNat_natCast] at h
  split at h
  · simp at h
  · split at h
    · simp at h
    · split at h
      · simp at h
      · split at h
        · rename_i hc
          simp only [Prod.mk.injEq, and_true] at h
          refine ⟨val ((l.drop a).take (lead (l.drop a) + 1)), a + (lead (l.drop a) + 1), h.1.symm, by omega, by omega, by omega, hc.1, ?_⟩
          rw [hc.2, List.take_add]
        · simp at h
theorem getT_at {l : List UInt8} {a : Nat} {t : List UInt8} {nx : Int} (h : getT l a = (t, nx, 0)) : ∃ k : Nat, nx = k ∧ a ≤ k ∧ k ≤ l.length ∧ l.take k = l.take a ++ tx t := by
  unfold getT at h
  split at h
  · rename_i h0
    obtain ⟨v, nx', er, hu⟩ : ∃ v nx' er, getU l a = (v, nx', er) := ⟨_, _, _, rfl⟩
    rw [hu] at h h0
    simp only at h h0
    subst h0
    obtain ⟨n, k, rfl, rfl, h1, h2, h3, h4⟩ := getU_at hu
    split at h
    · simp at h
    · rename_i hlt
      simp only [Prod.mk.injEq, and_true] at h
      simp only [Int.toNat_natCast] at h
      obtain ⟨ht, hx⟩ := h
      have hlen : t.length = n := by rw [← ht, List.length_take, List.length_drop]; omega
      refine ⟨k + n, by omega, by omega, by omega, ?_⟩
      rw [List.take_add, h4, ht, tx, hlen, List.append_assoc]
  · rename_i h0
    simp only [Prod.mk.injEq] at h
    exact absurd h.2.2 h0
def encB (X : Ix) : List UInt8 := X.flatMap fun l => tx (printL l)
def encX (X : Ix) : List UInt8 := uv X.length ++ encB X
theorem encB_take (X : Ix) (i : Nat) (h : i < X.length) : encB (X.take (i + 1)) = encB (X.take i) ++ tx (printL X[i]) := by
  unfold encB; rw [List.take_succ_eq_append_getElem h, List.flatMap_append]; simp
theorem encB_snoc (X : Ix) (l : List Lab) : encB (X ++ [l]) = encB X ++ tx (printL l) := by simp [encB]
theorem encB_append (X Y : Ix) : encB (X ++ Y) = encB X ++ encB Y := by simp [encB]
theorem encB_len {X : Ix} (h : ∀ l ∈ X, okL l = true) : (encB X).length ≤ 710 * X.length := by
  induction X with
  | nil => simp [encB]
  | cons l X ih =>
    have h1 := ih (fun m hm => h m (by simp [hm]))
    have h2 := printL_len (h l (by simp))
    have h3 := tx_len (printL l) (by omega)
    simp only [encB, List.flatMap_cons, List.length_append, List.length_cons] at h1 ⊢
    omega
theorem encX_len {X : Ix} (h : Good X) : (encX X).length ≤ 150000 := by
  have h1 := encB_len h.ok
  have h2 := h.few
  have h3 := uv_len10 (n := X.length) (by omega)
  unfold encX; rw [List.length_append]; omega
theorem encB_pre : ∀ {Y X : Ix} {r : List UInt8}, (∀ l ∈ X, okL l = true) → (∀ l ∈ Y, okL l = true) → Y.length ≤ X.length → encB X = encB Y ++ r → ∃ Z, X = Y ++ Z ∧ r = encB Z := by
  intro Y
  induction Y with
  | nil => intro X r _ _ _ h; exact ⟨X, rfl, by simpa [encB] using h.symm⟩
  | cons m Y ih =>
    intro X r hX hY hl h
    match X with
    | [] => simp at hl
    | l :: X =>
      simp only [encB, List.flatMap_cons, List.append_assoc] at h
      have h1 := printL_len (hX l (by simp))
      have h2 := printL_len (hY m (by simp))
      obtain ⟨h3, h4⟩ := tx_inj (by omega) (by omega) h
      have h5 := printL_inj (hX l (by simp)) (hY m (by simp)) h3
      subst h5
      obtain ⟨Z, rfl, h6⟩ := ih (fun l hl => hX l (by simp [hl])) (fun l hl => hY l (by simp [hl])) (by simpa using hl) h4
      exact ⟨Z, rfl, h6⟩
/-- What has been read of s: n, and the series Y, up to k. -/
structure Read (s : List UInt8) (n k : Nat) (Y : Ix) : Prop where
  good : Good Y
  few : Y.length ≤ n
  n200 : n ≤ 200
  le : k ≤ s.length
  is : s.take k = uv n ++ encB Y
/-- An index whose bytes are s goes on as has been read. -/
theorem Read.more {s : List UInt8} {n k : Nat} {Y : Ix} (h : Read s n k Y) {X : Ix} (hX : Good X) (he : encX X = s) : X.length = n ∧ ∃ Z, X = Y ++ Z ∧ s.drop k = encB Z := by
  have hs : uv X.length ++ encB X = uv n ++ (encB Y ++ s.drop k) := by
    rw [← List.append_assoc, ← h.is, List.take_append_drop]; exact he
  have g1 := getU_uv [] (encB X) X.length (by have := hX.few; omega)
  have g2 := getU_uv [] (encB Y ++ s.drop k) n (by have := h.n200; omega)
  simp only [List.nil_append] at g1 g2
  rw [hs, g2] at g1
  have hn : X.length = n := by simp only [Prod.mk.injEq] at g1; omega
  refine ⟨hn, ?_⟩
  rw [hn] at hs
  have hs := List.append_cancel_left hs
  exact encB_pre hX.ok h.good.ok (by have := h.few; omega) hs
noncomputable def decX (s : List UInt8) : Option Ix := open Classical in if h : ∃ X, Good X ∧ encX X = s then some h.choose else none
theorem encX_inj {X Y : Ix} (hX : Good X) (hY : Good Y) (h : encX X = encX Y) : X = Y := by
  have hR : Read (encX Y) Y.length (encX Y).length Y := ⟨hY, Nat.le_refl _, hY.few, Nat.le_refl _, by rw [List.take_length]; rfl⟩
  obtain ⟨h1, Z, rfl, h3⟩ := hR.more hX h
  have : Z = [] := by rw [List.length_append] at h1; exact List.length_eq_zero_iff.1 (by omega)
  subst this
  exact List.append_nil _
theorem decX_some {s : List UInt8} {X : Ix} (h1 : Good X) (h2 : encX X = s) : decX s = some X := by
  unfold decX
  rw [dif_pos ⟨X, h1, h2⟩]
  have h := (⟨X, h1, h2⟩ : ∃ X, Good X ∧ encX X = s).choose_spec
  rw [encX_inj h.1 h1 (h.2.trans h2.symm)]
theorem decX_none {s : List UInt8} (h : ∀ X, Good X → encX X ≠ s) : decX s = none := by
  unfold decX
  rw [dif_neg (fun ⟨X, h1, h2⟩ => h X h1 h2)]
theorem decX_of {s : List UInt8} {X : Ix} (h : decX s = some X) : Good X ∧ encX X = s := by
  unfold decX at h
  split at h
  · rename_i hh; injection h with h; rw [← h]; exact hh.choose_spec
  · cases h
/-! the steps of reading -/
theorem read_head_bad {s : List UInt8} {v nx er : Int} (h : getU s 0 = (v, nx, er)) (hb : er ≠ 0 ∨ 200 < v) : decX s = none := by
  refine decX_none fun X hX he => ?_
  have g := getU_uv [] (encB X) X.length (by have := hX.few; omega)
  simp only [List.nil_append, List.length_nil] at g
  have e : uv X.length ++ encB X = s := he
  rw [e] at g
  have h2 : getU s 0 = ((X.length : Int), (0 + (uv X.length).length : Int), 0) := g
  rw [h] at h2
  simp only [Prod.mk.injEq] at h2
  have := hX.few
  omega
theorem read_head {s : List UInt8} {v nx : Int} (h : getU s 0 = (v, nx, 0)) (hv : ¬ 200 < v) : ∃ n k : Nat, v = n ∧ nx = k ∧ Read s n k [] := by
  obtain ⟨n, k, rfl, rfl, _, h2, _, h4⟩ := getU_at (a := 0) h
  exact ⟨n, k, rfl, rfl, Good.nil, Nat.zero_le _, by omega, h2, by rw [h4]; simp [encB]⟩
theorem Read.text {s : List UInt8} {n k : Nat} {Y : Ix} (h : Read s n k Y) (hi : Y.length < n) {X : Ix} (hX : Good X) (he : encX X = s) : ∃ l, okL l = true ∧ l ∉ Y ∧ getT s k = (printL l, (k + (tx (printL l)).length : Int), 0) := by
  obtain ⟨h1, Z, h2, h3⟩ := h.more hX he
  match Z, h2, h3 with
  | [], h2, _ => rw [h2, List.append_nil] at h1; omega
  | l :: Z, h2, h3 =>
    have hok : okL l = true := hX.ok l (by rw [h2]; simp)
    have hlen := printL_len hok
    refine ⟨l, hok, fun hm => ?_, ?_⟩
    · have hn := hX.once
      rw [h2, List.nodup_append] at hn
      exact hn.2.2 l hm l (by simp) rfl
    · have g := getT_tx (s.take k) (encB Z) (printL l) (by omega)
      have e : s.take k ++ (tx (printL l) ++ encB Z) = s := by
        have : tx (printL l) ++ encB Z = s.drop k := by rw [h3]; simp [encB]
        rw [this, List.take_append_drop]
      rw [e, List.length_take, Nat.min_eq_left h.le] at g
      exact g
theorem Read.bad_text {s : List UInt8} {n k : Nat} {Y : Ix} (h : Read s n k Y) (hi : Y.length < n) {t : List UInt8} {nx er : Int} (hg : getT s k = (t, nx, er)) (he : er ≠ 0) : decX s = none :=
  decX_none fun X hX e => by
    obtain ⟨l, _, _, g⟩ := h.text hi hX e
    rw [hg] at g
    simp only [Prod.mk.injEq] at g
    exact he g.2.2
theorem Read.bad_labels {s : List UInt8} {n k : Nat} {Y : Ix} (h : Read s n k Y) (hi : Y.length < n) {t : List UInt8} {nx : Int} (hg : getT s k = (t, nx, 0)) (he : parseL t = none) : decX s = none :=
  decX_none fun X hX e => by
    obtain ⟨l, hok, _, g⟩ := h.text hi hX e
    rw [hg] at g
    simp only [Prod.mk.injEq] at g
    rw [parseL_some hok g.1.symm] at he
    cases he
theorem Read.twice {s : List UInt8} {n k : Nat} {Y : Ix} (h : Read s n k Y) (hi : Y.length < n) {t : List UInt8} {nx : Int} (hg : getT s k = (t, nx, 0)) {m : List Lab} (hp : parseL t = some m) (hm : m ∈ Y) : decX s = none :=
  decX_none fun X hX e => by
    obtain ⟨l, hok, hn, g⟩ := h.text hi hX e
    rw [hg] at g
    simp only [Prod.mk.injEq] at g
    have := parseL_some hok g.1.symm
    rw [hp] at this
    injection this with this
    subst this
    exact hn hm
theorem Read.next {s : List UInt8} {n k : Nat} {Y : Ix} (h : Read s n k Y) (hi : Y.length < n) {t : List UInt8} {nx : Int} (hg : getT s k = (t, nx, 0)) {m : List Lab} (hp : parseL t = some m) (hm : m ∉ Y) : ∃ q : Nat, nx = q ∧ Read s n q (Y ++ [m]) := by
  obtain ⟨q, rfl, h1, h2, h3⟩ := getT_at hg
  have hpp := parseL_of hp
  have hadd : addX Y m = Y ++ [m] := if_pos ⟨hpp.1, hm, by have := h.n200; omega⟩
  refine ⟨q, rfl, ?_, by simp; omega, h.n200, h2, ?_⟩
  · rw [← hadd]; exact h.good.add m
  · rw [h3, h.is, encB_snoc, hpp.2, List.append_assoc]
theorem Read.last_bad {s : List UInt8} {n k : Nat} {Y : Ix} (h : Read s n k Y) (hi : Y.length = n) (hk : k ≠ s.length) : decX s = none :=
  decX_none fun X hX e => by
    obtain ⟨h1, Z, h2, h3⟩ := h.more hX e
    have hz : Z = [] := by rw [h2, List.length_append] at h1; exact List.length_eq_zero_iff.1 (by omega)
    subst hz
    have h4 := congrArg List.length h3
    rw [List.length_drop] at h4
    simp [encB] at h4
    have := h.le
    omega
theorem Read.last {s : List UInt8} {n : Nat} {Y : Ix} (h : Read s n s.length Y) (hi : Y.length = n) : decX s = some Y := by
  refine decX_some h.good ?_
  have := h.is
  rw [List.take_length] at this
  rw [this, ← hi]; rfl
end Go.Proofs.YtdbifbgjbfnfmaaDoor
/-
  Layer 1 (zig): what each call of the program, and of the document's own answer, returns; all that was in memory stays.
-/
namespace Go.Proofs.YtdbifbgjbfnfmaaDoor
open Go.RowKit Go.Deep
attribute [local go_sem] str_size str_append str_toList str_get str_extract

theorem groups_c (n : Nat) (w : World) (h : n < 18446744073709551616) : Calls Tryd.prog 70 #[.int .u64 n] w fun e w' => e = .returned (.int .i64 (uv n).length) ∧ w = w' := by
  have hb : bits .or .u64 (n : Int) 1 = ((n ||| 1 : Nat) : Int) := u64_or_nat n 1 h (by omega)
  have e := or_one n
  have hg := groups_eq n h
  have hle := Lib.bitLen_le (n ||| 1) 64 (by omega) (by omega)
  obtain ⟨m, hm⟩ : ∃ m, m = (n ||| 1) := ⟨_, rfl⟩
  rw [← hm] at hb hg hle e
  have hm1 : m < 18446744073709551616 := by omega
  obtain ⟨k, hk⟩ : ∃ k, k = Lib.bitLen m := ⟨_, rfl⟩
  rw [← hk] at hg hle
  have HK := Lib.hid hk
  have HG := Lib.hid hg
  clear hm e hk hg
  go_enter Tryd.func70, Tryd.ntmps70
  go_wp2_with fail
  refine (Tryd.bits_Len64 m _ (by omega) (by omega)).mono ?_
  rintro e w' ⟨rfl, rfl⟩
  rw [Int.toNat_natCast, ← HK.out]
  go_wp2_with fail
  go_ret
  exact ⟨ret_int (by rw [← HG.out]; omega), rfl⟩
theorem uint_info : (Tryd.prog.info? 5).map (fun i => (i.zero, i.size, i.bytes)) = some (some (.int .u8 0), 1, 1) := by kernel_rfl
/-- The row of bytes that Uint fills, i of them done. -/
def urow (n i : Nat) (j : Nat) : Value := if j < i then .int .u8 ((n / 128 ^ j % 128 + 128 : Nat) : Int) else .int .u8 0
theorem uint_c (n : Nat) (w : World) (h2 : n < 18446744073709551616) : Calls Tryd.prog 43 #[.int .u64 n] w fun e w' => e = .returned (.string (str (uv n))) ∧ Below w.heap.size w w' := by
  have hlen := uv_len10 h2
  have hpos := uv_pos n
  obtain ⟨k, hk⟩ : ∃ k, k = (uv n).length := ⟨_, rfl⟩
  rw [← hk] at hlen hpos
  have hmk := fun W => run_make_row' (P := Tryd.prog) 78 5 (.int .u8 0) 1 Tryd.underlying78 uint_info rfl .i64 .i64 k (by omega) (by omega) W
  have HK := Lib.hid hk
  clear hk
  go_enter Tryd.func43, Tryd.ntmps43
  go_wp2_with fail
  refine (groups_c n _ h2).mono ?_
  rintro e w' ⟨rfl, rfl⟩
  rw [← HK.out]
  go_wp2_with fail
  go_loopw [11] (fun c wr => ∃ i : Nat, i ≤ k ∧ c = .int .i64 i ∧ wr.rowIs w.heap.size 5 k (urow n i) ∧ Below w.heap.size w wr) (fun c _ => k - (intOf c).toNat)
  case atStart =>
    exact ⟨0, by omega, rfl, (World.rowIs_made w (.int .u8 0) k 5).congr (fun j _ => by simp [urow]), (Below.refl _ _).alloc (Nat.le_refl _) _⟩
  case round =>
    obtain ⟨i, hi, rfl, hrow, hb⟩ := hrel
    by_cases hlt : i < k
    · have hc := hrow.cell hlt
      have hf := hrow.frozen i
      go_wp2
      go_roundw
      case rel =>
        refine ⟨i + 1, by omega, by go_num, ?_, hb.setCell (Nat.le_refl _) _⟩
        rw [group_more]
        refine (hrow.set i _).congr (fun j _ => ?_)
        unfold urow
        by_cases h : j = i
        · subst h; rw [if_pos rfl, if_pos (by omega)]
        · rw [if_neg h]; by_cases h' : j < i
          · rw [if_pos h', if_pos (by omega)]
          · rw [if_neg h', if_neg (by omega)]
      case measure => simp [intOf]; omega
    · obtain rfl : i = k := by omega
      have hc := hrow.cell (i := i - 1) (by omega)
      have hf := hrow.frozen (i - 1)
      have ht := uv_top n (i - 1) (by rw [← HK.out]; omega)
      obtain ⟨g, hg⟩ : ∃ g, g = n / 128 ^ (i - 1) := ⟨_, rfl⟩
      have hc' : wr.cell? ⟨w.heap.size, i - 1, none⟩ = some (.int .u8 ((g : Int) + 128)) := by
        rw [hc]; unfold urow; rw [if_pos (by omega), ← hg, Nat.mod_eq_of_lt (by rw [hg]; exact ht.2)]; rfl
      have hg' : g < 128 := by rw [hg]; exact ht.2
      have hgl := group_last g hg'
      have hrow' := hrow.set (i - 1) (.int .u8 (g : Int))
      have hcv := conv_row (P := Tryd.prog) _ 78 9 5 Tryd.underlying78 Tryd.underlying5 Tryd.underlying9 w.heap.size (uv n) i i _ hrow' (by rw [← HK.out]; omega) (fun j hj => by
        rw [← HK.out] at hj
        by_cases h : j = i - 1
        · subst h
          rw [if_pos rfl]
          have h1 := ht.1
          rw [List.getElem?_eq_getElem (by rw [← HK.out]; exact hj)] at h1
          injection h1 with h1
          rw [h1, ← hg, toNat_ofNat_lt (by omega), Nat.mod_eq_of_lt hg']
        · rw [if_neg h]
          have h1 := uv_get n j (by rw [← HK.out]; omega)
          rw [List.getElem?_eq_getElem (by rw [← HK.out]; exact hj)] at h1
          injection h1 with h1
          unfold urow
          rw [if_pos hj, h1, toNat_ofNat_lt (by omega)])
      rw [← HK.out] at hcv
      clear hc ht hg hrow'
      go_wp2
      go_ret
      exact ⟨rfl, hb.setCell (Nat.le_refl _) _⟩
theorem text_c (l : List UInt8) (w : World) (h : l.length ≤ 4611686018427387904) : Calls Tryd.prog 45 #[.string (str l)] w fun e w' => e = .returned (.string (str (tx l))) ∧ Below w.heap.size w w' := by
  have h10 := uv_len10 (n := l.length) (by omega)
  go_enter Tryd.func45, Tryd.ntmps45
  go_wp2_with fail
  refine (uint_c l.length _ (by omega)).mono ?_
  rintro e w' ⟨rfl, hb⟩
  go_wp2_with fail
  go_ret
  exact ⟨rfl, hb⟩
theorem mayEnd_c (i g : Nat) (w : World) (hi : i < 10) (hg : g < 128) : Calls Tryd.prog 102 #[.int .i64 i, .int .u8 g] w fun e w' => e = .returned (.bool (mayEndB i g)) ∧ w = w' := by
  by_cases h9 : i = 9
  · subst h9
    by_cases h2 : g < 2
    · by_cases h0 : g = 0
      · subst h0
        go_enter Tryd.func102, Tryd.ntmps102
        go_wp2
        go_ret
        exact ⟨ret_bool rfl, rfl⟩
      · obtain rfl : g = 1 := by omega
        go_enter Tryd.func102, Tryd.ntmps102
        go_wp2
        go_ret
        exact ⟨ret_bool rfl, rfl⟩
    · have hm : mayEndB 9 g = false := by unfold mayEndB; simp; omega
      have HM := Lib.hid hm
      clear hm
      go_enter Tryd.func102, Tryd.ntmps102
      go_wp2
      go_ret
      exact ⟨ret_bool HM.out.symm, rfl⟩
  · by_cases h0 : i = 0
    · subst h0
      have hm : mayEndB 0 g = true := by unfold mayEndB; simp
      have HM := Lib.hid hm
      clear hm
      go_enter Tryd.func102, Tryd.ntmps102
      go_wp2
      go_ret
      exact ⟨ret_bool HM.out.symm, rfl⟩
    · have h9' : ((i : Int) == 9) = false := by simp; omega
      have h0' : ((i : Int) == 0) = false := by simp; omega
      by_cases hz : g = 0
      · subst hz
        have hm : mayEndB i 0 = false := by unfold mayEndB; simp; omega
        have HM := Lib.hid hm
        clear hm
        go_enter Tryd.func102, Tryd.ntmps102
        go_wp2
        go_ret
        exact ⟨ret_bool HM.out.symm, rfl⟩
      · have hm : mayEndB i g = true := by unfold mayEndB; simp; omega
        have HM := Lib.hid hm
        have hz' : ((g : Int) != 0) = true := by simp; omega
        clear hm
        go_enter Tryd.func102, Tryd.ntmps102
        go_wp2
        go_ret
        exact ⟨ret_bool HM.out.symm, rfl⟩
/-- Three results, by their equations. -/
theorem ret_uie {v nx er v' nx' er' : Int} (h : (v, nx, er) = (v', nx', er')) : Ending.returned (.tuple #[.int .u64 v, .int .i64 nx, .int .i64 er]) = .returned (.tuple #[.int .u64 v', .int .i64 nx', .int .i64 er']) := by
  simp only [Prod.mk.injEq] at h; rw [h.1, h.2.1, h.2.2]
theorem getUint_c (l : List UInt8) (a : Int) (v nx er : Int) (w : World) (hl : l.length ≤ 4611686018427387904) (ha1 : -9223372036854775808 ≤ a) (ha2 : a ≤ 9223372036854775807) (hg : getU l a = (v, nx, er)) :
    Calls Tryd.prog 73 #[.string (str l), .int .i64 a] w fun e w' => e = .returned (.tuple #[.int .u64 v, .int .i64 nx, .int .i64 er]) ∧ w = w' := by
  have HG := Lib.hid hg
  clear hg
  by_cases h0 : a < 0
  · go_enter Tryd.func73, Tryd.ntmps73
    go_wp2
    go_ret3
    exact ⟨ret_uie ((getU_out (.inl h0)).symm.trans HG.out), rfl⟩
  by_cases h1 : (l.length : Int) < a
  · go_enter Tryd.func73, Tryd.ntmps73
    go_wp2
    go_ret3
    exact ⟨ret_uie ((getU_out (.inr h1)).symm.trans HG.out), rfl⟩
  obtain ⟨a, rfl⟩ : ∃ k : Nat, a = k := ⟨a.toNat, by omega⟩
  go_enter Tryd.func73, Tryd.ntmps73
  go_wp2_with fail
  go_loop [7, 18] (fun n c => ∃ i x : Nat, i ≤ 10 ∧ n = .int .u64 x ∧ x < 18446744073709551616 ∧ c = .int .i64 i ∧ Hid (i ≤ 9 → x = val ((l.drop a).take i)) ∧ Hid (i ≤ lead (l.drop a))) (fun _ c => 10 - (intOf c).toNat)
  case atStart => exact ⟨0, 0, by omega, rfl, by omega, rfl, fun _ => rfl, Nat.zero_le _⟩
  case round =>
    obtain ⟨i, x, hi, rfl, hx, rfl, hv, hle⟩ := hrel
    by_cases hlt : i < 10
    · by_cases hend : a + i = l.length
      · have he : ((a : Int) + i == l.length) = true := by simp; omega
        have HR := Lib.hid (getU_short hend hlt hle.out)
        clear hend
        go_wp2
        go_ret3
        exact ⟨ret_uie (HR.out.symm.trans HG.out), rfl⟩
      · have he : ((a : Int) + i == l.length) = false := by simp; omega
        have hb : a + i < l.length := by
          have h1 := hle.out
          have h2 := lead_le (l.drop a)
          have h3 := List.length_drop (i := a) (l := l)
          omega
        obtain ⟨q, hq⟩ : ∃ q, q = (l[a + i]).toNat := ⟨_, rfl⟩
        have hql : q < 256 := by rw [hq]; exact (l[a + i]).toNat_lt
        have hxv := hv.out (by omega)
        have hxl : x < 128 ^ i := by rw [hxv]; exact val_take_lt _ _ (by rw [List.length_drop]; omega)
        obtain ⟨z, hz, hzl, hzs⟩ := step_or i x (q % 128) (by omega) hxl (Nat.mod_lt _ (by omega))
        have hr : bits .andNot .u8 (q : Int) 128 = ((q % 128 : Nat) : Int) := by
          refine (u8_andNot_nat q 128 hql (by omega)).trans ?_
          rw [show 255 - 128 = 127 from rfl, u8_and127]
        have hr' : bits .and .u8 (q : Int) 128 = if q < 128 then 0 else 128 := by
          refine (u8_and_nat q 128 hql (by omega)).trans ?_
          rw [u8_and128 _ hql]; split <;> rfl
        by_cases hq7 : q < 128
        · rw [if_pos hq7] at hr'
          have hlead := lead_here hb hle.out (by rw [← hq]; exact hq7)
          have hend' := getU_end hb hlt hlead hxv
          rw [← hq] at hend'
          have hrq : q % 128 = q := Nat.mod_eq_of_lt hq7
          rw [hrq] at hr hz hzs
          have HQ := Lib.hid hq
          have HE := Lib.hid hend'
          have HZ := Lib.hid hzs
          have hq' := hq.symm
          clear hq hxv hlead hend' hrq hzs hend
          by_cases hm : mayEndB i q = true
          · have HM := Lib.hid hm
            go_wp2_with fail
            refine (mayEnd_c i q _ hlt hq7).mono ?_
            rintro e w' ⟨rfl, rfl⟩
            rw [hm]
            clear hm
            go_wp2_with fail
            go_ret3
            have hm := HM.out
            have h3 := HE.out
            rw [if_pos hm] at h3
            have h8 : i ≤ 8 ∨ q < 2 := by
              unfold mayEndB at hm
              rw [decide_eq_true_iff] at hm
              by_cases h9 : i = 9
              · exact .inr (hm.1 h9)
              · exact .inl (by omega)
            rw [← HZ.out h8] at h3
            exact ⟨ret_uie (h3.symm.trans HG.out), rfl⟩
          · have hm : mayEndB i q = false := by simpa using hm
            have HM := Lib.hid hm
            go_wp2_with fail
            refine (mayEnd_c i q _ hlt hq7).mono ?_
            rintro e w' ⟨rfl, rfl⟩
            rw [hm]
            clear hm
            go_wp2_with fail
            go_ret3
            have h3 := HE.out
            rw [HM.out, if_neg (by simp)] at h3
            exact ⟨ret_uie (h3.symm.trans HG.out), rfl⟩
        · rw [if_neg hq7] at hr'
          have hmore := lead_more hb hle.out (by rw [← hq]; exact hq7)
          have hget : (l.drop a)[i]? = some (l[a + i]) := by rw [List.getElem?_drop, List.getElem?_eq_getElem hb]
          have hvs := val_take_succ hget
          rw [← hq, ← hxv] at hvs
          have HV : Hid (i + 1 ≤ 9 → z = val ((l.drop a).take (i + 1))) := fun h => by rw [hvs, hzs (.inl (by omega))]
          have HM := Lib.hid hmore
          have hq' := hq.symm
          obtain ⟨r, hr2⟩ : ∃ r, r = q % 128 := ⟨_, rfl⟩
          have hrl : r < 128 := by omega
          rw [← hr2] at hr hz
          clear hq hxv hzs hmore hget hvs hend hr2
          go_wp2_with fail
          go_round
          case rel => exact ⟨i + 1, z, by omega, rfl, hzl, by go_num, HV, HM⟩
          case measure => simp [intOf]; omega
    · obtain rfl : i = 10 := by omega
      go_wp2
      go_ret3
      exact ⟨ret_uie ((getU_ten (by omega) hle.out).symm.trans HG.out), rfl⟩
theorem ret_iie {v nx er v' nx' er' : Int} (h : (v, nx, er) = (v', nx', er')) : Ending.returned (.tuple #[.int .i64 v, .int .i64 nx, .int .i64 er]) = .returned (.tuple #[.int .i64 v', .int .i64 nx', .int .i64 er']) := by
  simp only [Prod.mk.injEq] at h; rw [h.1, h.2.1, h.2.2]
theorem ret_sie {v v' : List UInt8} {nx er nx' er' : Int} (h : (v, nx, er) = (v', nx', er')) : Ending.returned (.tuple #[.string (str v), .int .i64 nx, .int .i64 er]) = .returned (.tuple #[.string (str v'), .int .i64 nx', .int .i64 er']) := by
  simp only [Prod.mk.injEq] at h; rw [h.1, h.2.1, h.2.2]
theorem clone_c (l : List UInt8) (w : World) (h : l.length ≤ 281474976710656) : Calls Tryd.prog 78 #[.string (str l)] w fun e w' => e = .returned (.string (str l)) ∧ Below w.heap.size w w' := by
  go_enter Tryd.func78, Tryd.ntmps78
  go_wp2_with fail
  refine (Tryd.stringslite_Clone (str l) _ (by rw [str_size]; exact h)).mono ?_
  rintro e w' ⟨rfl, hb⟩
  go_wp2_with fail
  go_ret
  exact ⟨rfl, hb⟩
theorem getText_c (l : List UInt8) (a : Int) (v : List UInt8) (nx er : Int) (w : World) (hl : l.length ≤ 281474976710656) (ha1 : -9223372036854775808 ≤ a) (ha2 : a ≤ 9223372036854775807) (hg : getT l a = (v, nx, er)) :
    Calls Tryd.prog 74 #[.string (str l), .int .i64 a] w fun e w' => e = .returned (.tuple #[.string (str v), .int .i64 nx, .int .i64 er]) ∧ Below w.heap.size w w' := by
  obtain ⟨u, n', e', hu⟩ : ∃ u n' e', getU l a = (u, n', e') := ⟨_, _, _, rfl⟩
  have hr := getU_range hu
  unfold getT at hg
  rw [hu] at hg
  obtain ⟨u, rfl⟩ : ∃ m : Nat, u = m := ⟨u.toNat, by omega⟩
  obtain ⟨n', rfl⟩ : ∃ m : Nat, n' = m := ⟨n'.toNat, by omega⟩
  have HU := Lib.hid hu
  clear hu
  by_cases he : e' = 0
  · subst he
    rw [if_pos rfl] at hg
    obtain ⟨k1, k2, k3, k4, -⟩ := hr
    by_cases hs : (l.length : Int) - n' < u
    · rw [if_pos hs] at hg
      have HG := Lib.hid hg
      clear hg
      go_enter Tryd.func74, Tryd.ntmps74
      go_wp2_with fail
      refine (getUint_c l a _ _ _ _ (by omega) ha1 ha2 HU.out).mono ?_
      rintro e w' ⟨rfl, rfl⟩
      go_wp2_with fail
      go_ret3
      exact ⟨ret_sie HG.out, Below.refl _ _⟩
    · rw [if_neg hs] at hg
      simp only [Int.toNat_natCast] at hg
      have HG := Lib.hid hg
      have hlen : ((l.drop n').take u).length ≤ 281474976710656 := by rw [List.length_take, List.length_drop]; omega
      clear hg
      go_enter Tryd.func74, Tryd.ntmps74
      go_wp2_with fail
      refine (getUint_c l a _ _ _ _ (by omega) ha1 ha2 HU.out).mono ?_
      rintro e w' ⟨rfl, rfl⟩
      go_wp2_with fail
      rw [show n' + u - n' = u by omega]
      refine (clone_c _ _ hlen).mono ?_
      rintro e w' ⟨rfl, hb⟩
      go_wp2_with fail
      go_ret3
      exact ⟨ret_sie HG.out, hb⟩
  · rw [if_neg he] at hg
    have HG := Lib.hid hg
    have he' : (e' != 0) = true := by simpa using he
    clear hg he
    obtain ⟨k1, k2, k3, k4, k5, k6, -⟩ := hr
    go_enter Tryd.func74, Tryd.ntmps74
    go_wp2_with fail
    refine (getUint_c l a _ _ _ _ (by omega) ha1 ha2 HU.out).mono ?_
    rintro e w' ⟨rfl, rfl⟩
    go_wp2_with fail
    go_ret3
    exact ⟨ret_sie HG.out, Below.refl _ _⟩
end Go.Proofs.YtdbifbgjbfnfmaaDoor
/-
  Layer 1 (zig): what each call of the document's own answer returns; all that was in memory stays.
-/
namespace Go.Proofs.YtdbifbgjbfnfmaaDoor
open Go.RowKit Go.Deep
attribute [local go_sem] str_size str_append str_toList str_get str_extract

theorem refUint_c (n : Nat) (w : World) (h2 : n < 18446744073709551616) : Calls Tryd.prog 48 #[.int .u64 n] w fun e w' => e = .returned (.string (str (uv n))) ∧ Below w.heap.size w w' := by
  have hcv := conv_one (P := Tryd.prog) 78 9 5 Tryd.underlying78 Tryd.underlying5 Tryd.underlying9
  go_enter Tryd.func48, Tryd.ntmps48
  go_wp2_with fail
  go_loopw [0, 3] (fun a s wr => ∃ (m : Nat) (p : List UInt8), m < 18446744073709551616 ∧ a = .int .u64 m ∧ s = .string (str p) ∧ p ++ uv m = uv n ∧ Below w.heap.size w wr) (fun a _ _ => (intOf a).toNat)
  case atStart => exact ⟨n, [], h2, rfl, rfl, rfl, Below.refl _ _⟩
  case round =>
    obtain ⟨m, p, hm, rfl, rfl, hp, hb⟩ := hrel
    have hpl : p.length ≤ 10 := by
      have := uv_len10 h2
      have h := congrArg List.length hp
      rw [List.length_append] at h
      omega
    have HP := Lib.hid hp
    clear hp
    by_cases hlt : m < 128
    · go_wp2
      go_ret
      refine ⟨ret_str ?_, hb.alloc hb.size _⟩
      rw [← HP.out, uv_lt hlt]
    · go_wp2
      go_roundw
      case rel =>
        refine ⟨m / 128, _, by omega, rfl, rfl, ?_, hb.alloc hb.size _⟩
        rw [← HP.out, uv_ge hlt, List.append_assoc, UInt8.ofNat_add]
        rfl
      case measure => simp [intOf]; omega
theorem refText_c (l : List UInt8) (w : World) (h : l.length ≤ 4611686018427387904) : Calls Tryd.prog 50 #[.string (str l)] w fun e w' => e = .returned (.string (str (tx l))) ∧ Below w.heap.size w w' := by
  have h10 := uv_len10 (n := l.length) (by omega)
  go_enter Tryd.func50, Tryd.ntmps50
  go_wp2_with fail
  refine (refUint_c l.length _ (by omega)).mono ?_
  rintro e w' ⟨rfl, hb⟩
  go_wp2_with fail
  go_ret
  exact ⟨rfl, hb⟩
set_option maxHeartbeats 2000000 in
theorem refGetUint_c (l : List UInt8) (a : Int) (v nx er : Int) (w : World) (hl : l.length ≤ 4611686018427387904) (ha1 : -9223372036854775808 ≤ a) (ha2 : a ≤ 9223372036854775807) (hg : getU l a = (v, nx, er)) :
    Calls Tryd.prog 51 #[.string (str l), .int .i64 a] w fun e w' => e = .returned (.tuple #[.int .u64 v, .int .i64 nx, .int .i64 er]) ∧ Below w.heap.size w w' := by
  have HG := Lib.hid hg
  clear hg
  by_cases h0 : a < 0
  · go_enter Tryd.func51, Tryd.ntmps51
    go_wp2
    go_ret3
    exact ⟨ret_uie ((getU_out (.inl h0)).symm.trans HG.out), Below.refl _ _⟩
  by_cases h1 : (l.length : Int) < a
  · go_enter Tryd.func51, Tryd.ntmps51
    go_wp2
    go_ret3
    exact ⟨ret_uie ((getU_out (.inr h1)).symm.trans HG.out), Below.refl _ _⟩
  obtain ⟨a, rfl⟩ : ∃ k : Nat, a = k := ⟨a.toNat, by omega⟩
  go_enter Tryd.func51, Tryd.ntmps51
  go_wp2_with fail
  go_loop [7] (fun c => ∃ i : Nat, i ≤ 10 ∧ c = .int .i64 i ∧ Hid (i ≤ lead (l.drop a))) (fun c => 10 - (intOf c).toNat)
  case atStart => exact ⟨0, by omega, rfl, Nat.zero_le _⟩
  case round =>
    obtain ⟨i, hi, rfl, hle⟩ := hrel
    by_cases hlt : i < 10
    · have hnt : ((i : Int) == 10) = false := by simp; omega
      by_cases hend : a + i = l.length
      · have he : ((a : Int) + i == l.length) = true := by simp; omega
        have HR := Lib.hid (getU_short hend hlt hle.out)
        have hnl : ¬ ((a : Int) + i < l.length) := by omega
        clear hend
        go_wp2
        go_ret3
        exact ⟨ret_uie (HR.out.symm.trans HG.out), Below.refl _ _⟩
      · have he : ((a : Int) + i == l.length) = false := by simp; omega
        have hb : a + i < l.length := by
          have h1 := hle.out
          have h2 := lead_le (l.drop a)
          have h3 := List.length_drop (i := a) (l := l)
          omega
        obtain ⟨q, hq⟩ : ∃ q, q = (l[a + i]).toNat := ⟨_, rfl⟩
        have hql : q < 256 := by rw [hq]; exact (l[a + i]).toNat_lt
        by_cases hq7 : q < 128
        · have hlead := lead_here hb hle.out (by rw [← hq]; exact hq7)
          have HL := Lib.hid hlead
          have hq' := hq.symm
          clear hlead hq
          go_wp2_with fail
          go_loop [8, 9] (fun x c => ∃ (k : Int) (x' : Nat), -1 ≤ k ∧ k ≤ i ∧ c = .int .i64 k ∧ x = .int .u64 x' ∧ x' < 18446744073709551616 ∧ Hid (x' = val (((l.drop a).take (i + 1)).drop (k + 1).toNat))) (fun _ c => (intOf c + 1).toNat)
          case atStart => exact ⟨i, 0, by omega, by omega, rfl, rfl, by omega, by show _ = _; rw [List.drop_of_length_le (by rw [List.length_take]; omega)]; rfl⟩
          case round =>
            obtain ⟨k, x, hk1, hk2, rfl, rfl, hx, hv⟩ := hrel
            by_cases hk : k < 0
            · obtain rfl : k = -1 := by omega
              have hxe := hv.out
              rw [show ((-1 : Int) + 1).toNat = 0 from rfl, List.drop_zero] at hxe
              by_cases hc : uv x = (l.drop a).take (i + 1)
              · have hc' : (uv x == (l.drop a).take (i + 1)) = true := by simpa using hc
                have HR := Lib.hid (getU_good hb hlt HL.out ⟨by omega, by rw [← hxe]; exact hc⟩)
                have HX := Lib.hid hxe
                clear hc hxe
                have s1 : IntKind.i64.wrap ((a : Int) + i) = (a : Int) + i := IntWalk.i64_in _ (by omega)
                have s2 : IntKind.i64.wrap ((a : Int) + i + 1) = (a : Int) + i + 1 := IntWalk.i64_in _ (by omega)
                have hsl := fun (W : World) => run_slice_string (P := Tryd.prog) W 9 (str l) .i64 .i64 (a : Int) ((a : Int) + i + 1) Tryd.underlying9 (by omega) (by omega) (by rw [str_size]; omega)
                simp only [str_extract, Int.toNat_natCast, show ((a : Int) + i + 1).toNat - a = i + 1 by omega] at hsl
                go_wp2_with fail
                go_region_with (go_at_call 48; refine (refUint_c x _ (by omega)).mono ?_; rintro e w' ⟨rfl, hb'⟩)
                go_wp2_with fail
                go_ret3
                have h3 := HR.out
                rw [← HX.out] at h3
                exact ⟨ret_uie (h3.symm.trans HG.out), below_of_drew hb'⟩
              · have hc' : (uv x == (l.drop a).take (i + 1)) = false := by simpa using hc
                have HR := Lib.hid (getU_big hb hlt HL.out (fun e => hc (by rw [hxe]; exact e.2)))
                clear hc hxe
                have s1 : IntKind.i64.wrap ((a : Int) + i) = (a : Int) + i := IntWalk.i64_in _ (by omega)
                have s2 : IntKind.i64.wrap ((a : Int) + i + 1) = (a : Int) + i + 1 := IntWalk.i64_in _ (by omega)
                have hsl := fun (W : World) => run_slice_string (P := Tryd.prog) W 9 (str l) .i64 .i64 (a : Int) ((a : Int) + i + 1) Tryd.underlying9 (by omega) (by omega) (by rw [str_size]; omega)
                simp only [str_extract, Int.toNat_natCast, show ((a : Int) + i + 1).toNat - a = i + 1 by omega] at hsl
                go_wp2_with fail
                go_region_with (go_at_call 48; refine (refUint_c x _ (by omega)).mono ?_; rintro e w' ⟨rfl, hb'⟩)
                go_wp2_with fail
                go_ret3
                exact ⟨ret_uie (HR.out.symm.trans HG.out), below_of_drew hb'⟩
            · obtain ⟨k, rfl⟩ : ∃ m : Nat, k = m := ⟨k.toNat, by omega⟩
              by_cases hbig : x < 144115188075855872
              · have hkl : k < ((l.drop a).take (i + 1)).length := by rw [List.length_take, List.length_drop]; omega
                have hvd := val_drop _ _ hkl
                have hel : ((l.drop a).take (i + 1))[k] = l[a + k] := by rw [List.getElem_take, List.getElem_drop]
                rw [hel] at hvd
                have hve := hv.out
                rw [show ((k : Int) + 1).toNat = k + 1 by omega] at hve
                rw [← hve] at hvd
                obtain ⟨r, hr⟩ : ∃ r, r = (l[a + k]).toNat := ⟨_, rfl⟩
                rw [← hr] at hvd
                have hr' := hr.symm
                have HV := Lib.hid hvd
                clear hvd hel hr hve
                go_wp2_with fail
                go_round
                case rel =>
                  refine ⟨(k : Int) - 1, x * 128 + r % 128, by omega, by omega, rfl, by go_num, by omega, ?_⟩
                  show _ = _
                  rw [show ((k : Int) - 1 + 1).toNat = k by omega, HV.out, Nat.mul_comm, Nat.add_comm]
                case measure => simp [intOf] <;> omega
              · have hkl : k < ((l.drop a).take (i + 1)).length := by rw [List.length_take, List.length_drop]; omega
                have hvd := val_drop_le ((l.drop a).take (i + 1)) k
                rw [val_drop _ _ hkl] at hvd
                have hve := hv.out
                rw [show ((k : Int) + 1).toNat = k + 1 by omega] at hve
                rw [← hve] at hvd
                have HR := Lib.hid (getU_big hb hlt HL.out (by omega))
                clear hvd hve
                go_wp2_with fail
                go_ret3
                exact ⟨ret_uie (HR.out.symm.trans HG.out), Below.refl _ _⟩
        · have hmore := lead_more hb hle.out (by rw [← hq]; exact hq7)
          have HM := Lib.hid hmore
          have hq' := hq.symm
          clear hmore hq
          go_wp2_with fail
          go_round
          case rel => exact ⟨i + 1, by omega, by go_num, HM⟩
          case measure => simp [intOf] <;> omega
    · obtain rfl : i = 10 := by omega
      have HR := Lib.hid (getU_ten (by omega) hle.out)
      go_wp2
      go_ret3
      exact ⟨ret_uie (HR.out.symm.trans HG.out), Below.refl _ _⟩
theorem refGetText_c (l : List UInt8) (a : Int) (v : List UInt8) (nx er : Int) (w : World) (hl : l.length ≤ 281474976710656) (ha1 : -9223372036854775808 ≤ a) (ha2 : a ≤ 9223372036854775807) (hg : getT l a = (v, nx, er)) :
    Calls Tryd.prog 52 #[.string (str l), .int .i64 a] w fun e w' => e = .returned (.tuple #[.string (str v), .int .i64 nx, .int .i64 er]) ∧ Below w.heap.size w w' := by
  obtain ⟨u, n', e', hu⟩ : ∃ u n' e', getU l a = (u, n', e') := ⟨_, _, _, rfl⟩
  have hr := getU_range hu
  unfold getT at hg
  rw [hu] at hg
  obtain ⟨u, rfl⟩ : ∃ m : Nat, u = m := ⟨u.toNat, by omega⟩
  obtain ⟨n', rfl⟩ : ∃ m : Nat, n' = m := ⟨n'.toNat, by omega⟩
  have HU := Lib.hid hu
  clear hu
  by_cases he : e' = 0
  · subst he
    rw [if_pos rfl] at hg
    obtain ⟨k1, k2, k3, k4, -⟩ := hr
    by_cases hs : (l.length : Int) - n' < u
    · rw [if_pos hs] at hg
      have HG := Lib.hid hg
      clear hg
      go_enter Tryd.func52, Tryd.ntmps52
      go_wp2_with fail
      refine (refGetUint_c l a _ _ _ _ (by omega) ha1 ha2 HU.out).mono ?_
      rintro e w' ⟨rfl, hb⟩
      go_wp2_with fail
      go_ret3
      exact ⟨ret_sie HG.out, hb⟩
    · rw [if_neg hs] at hg
      simp only [Int.toNat_natCast] at hg
      have HG := Lib.hid hg
      have hlen : ((l.drop n').take u).length ≤ 281474976710656 := by rw [List.length_take, List.length_drop]; omega
      clear hg
      go_enter Tryd.func52, Tryd.ntmps52
      go_wp2_with fail
      refine (refGetUint_c l a _ _ _ _ (by omega) ha1 ha2 HU.out).mono ?_
      rintro e w' ⟨rfl, hb⟩
      go_wp2_with fail
      go_ret3
      exact ⟨(ret_sie (by rw [show n' + u - n' = u by omega])).trans (ret_sie HG.out), hb⟩
  · rw [if_neg he] at hg
    have HG := Lib.hid hg
    have he' : (e' != 0) = true := by simpa using he
    clear hg he
    obtain ⟨k1, k2, k3, k4, k5, k6, -⟩ := hr
    go_enter Tryd.func52, Tryd.ntmps52
    go_wp2_with fail
    refine (refGetUint_c l a _ _ _ _ (by omega) ha1 ha2 HU.out).mono ?_
    rintro e w' ⟨rfl, hb⟩
    go_wp2_with fail
    go_ret3
    exact ⟨ret_sie HG.out, hb⟩
end Go.Proofs.YtdbifbgjbfnfmaaDoor
