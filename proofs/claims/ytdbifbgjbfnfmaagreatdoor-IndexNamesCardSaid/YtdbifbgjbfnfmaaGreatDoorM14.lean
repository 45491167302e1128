/-
  Texts of the same seat, one behind the other (merged; each says at its head what it is).
-/
import Derived.Test.YtdbifbgjbfnfmaaGreatDoorM13
import Derived.Test.YtdbifbgjbfnfmaaGreatDoorM06
import Derived.Test.YtdbifbgjbfnfmaaGreatDoorM08
import Derived.Test.YtdbifbgjbfnfmaaGreatDoorM07
/-
  Layer 7 (index): the program's Add.
-/
namespace Go.Proofs.YtdbifbgjbfnfmaaGreatDoor
open Go.RowKit Go.Deep
attribute [local go_sem] str_size str_append str_toList str_get str_extract
set_option linter.unusedVariables false
set_option linter.unusedSimpArgs false
/-- A slice of labels stays where a map turns. -/
theorem LAt.turned {P : Program} {k : TypeId} {w w' : World} {b n : Nat} {D : DataW Value} {A : Option Addr} {len : Nat} {l : List Lab} (h : LAt w A len l) (hM : MapS P k w b n D) (hk : Keeps [b] w w') : LAt w' A len l := by
  have hc : ∀ (p : Addr) v, p.block < w.heap.size → w.cell? p = some v → w'.cell? p = some v := fun p v hp hv => by
    have hne : p.block ≠ b := fun e => by
      obtain ⟨es, clock, hb⟩ := hM.isMapObj
      rw [← e] at hb
      simp [World.cell?, hb] at hv
    have := hk.same p.block hp (by simpa using hne)
    rw [← hv]
    unfold World.cell?
    rw [this]
  refine ⟨h.1, fun i hi => ?_⟩
  obtain ⟨h1, ad, rfl, h2, h3, h4⟩ := h.2 i hi
  exact ⟨h1, ad, rfl, Nat.lt_of_lt_of_le h2 hk.size, hc _ _ h2 h3, hc ⟨(ad.add (i * 2)).block, (ad.add (i * 2)).off + 1, none⟩ _ h2 h4⟩
set_option maxRecDepth 100000 in
set_option maxHeartbeats 1000000 in
theorem ixAdd_c (F : List Nat) (q : Nat) (X : Ix) (A : Option Addr) (len cap : Nat) (l : List Lab) (w : World) (h : IsX F q X w) (hA : LAt w A len l) (hl : l.length ≤ 5000) (hz : ∀ x ∈ l, x.1.length ≤ 4096 ∧ x.2.length ≤ 4096) (hE : Env w) :
    Calls Tryz.prog 14 #[.pointer (some ⟨q, 0, none⟩), .slice A len cap] w fun e w' => ∃ F', e = .returned (.tuple #[.int .i64 (addI X l), .int .i64 (addE X l)]) ∧ IsX F' q (addX X l) w' ∧ Keeps F w w' ∧ ∀ k ∈ F', k ∈ F ∨ w.heap.size ≤ k := by
  have hle := hA.1
  subst hle
  have ck := key_c A l.length cap l w (by omega) hA hz hE.tabs
  cases ho : okL l with
  | false =>
    rw [ho, if_neg (by simp), show eOf false = 40 from rfl] at ck
    have e1 : addI X l = 0 := by unfold addI; rw [ho]; simp
    have e2 : addE X l = 40 := by unfold addE; rw [ho]; simp
    have e3 : addX X l = X := by unfold addX; rw [ho]; simp
    rw [e1, e2, e3]
    have CK := Lib.hid ck
    have HX := Lib.hid h
    clear ck e1 e2 e3 h hA ho
    go_enter Tryz.func14, Tryz.ntmps14
    go_wp2_with (first | (go_at_call 26; refine CK.out.mono ?_; rintro e w1 ⟨rfl, hb1⟩; dsimp only))
    go_ret2
    exact ⟨F, rfl, HX.out.below hb1, Keeps.below hb1, fun k hk => .inl hk⟩
  | true =>
    rw [ho, if_pos rfl, show eOf true = 0 from rfl] at ck
    have hk := keyL_len (okL_32 ho)
    have h8 := okL_len ho
    have cn := Lib.hid (fun W (hW : Below w.heap.size w W) => ixLenS_c F q X W (h.below hW))
    have HX := Lib.hid h
    obtain ⟨FH, bi, bo, B, c, vs, DI, D, ib, rb, h1, h2, h3, h4, h5, h6, h7, h8', h9, h10, h11, h12⟩ := h.ex
    have hg := h10 l ho
    obtain ⟨K, hK⟩ : ∃ K, keyL l = K := ⟨_, rfl⟩
    rw [hK] at ck hk hg
    have hlk := fun (W : World) (hW : Below w.heap.size w W) => MapS.look (e := 3) (z := .int .i64 0) true (h7.below hW) Tryz.underlying9 Tryz.underlying51 (by kernel_rfl) K (by unfold maxLen; omega)
    have HL := Lib.hid hlk
    have hc := blk_cell h1 1
    simp only [List.getElem?_toArray, List.getElem?_cons_succ, List.getElem?_cons_zero] at hc
    have HC := Lib.hid (fun (W : World) (hW : Below w.heap.size w W) => (hW.cell (p := ⟨q, 1, none⟩) (lt_of_block h1)).trans hc)
    have CK := Lib.hid ck
    have hin : ∀ i, findX X l = some i → l ∈ X := fun i hi => by obtain ⟨a, b, _⟩ := findX_some.1 hi; exact b ▸ List.getElem_mem a
    have hX := HX.out.good.few
    cases hf : findX X l with
    | some i =>
      have hm := hin i hf
      have e1 : addI X l = i := by unfold addI; rw [if_pos ho, hf]
      have e2 : addE X l = 0 := addE_mem hm ho
      have e3 : addX X l = X := addX_mem hm
      rw [e1, e2, e3]
      rw [hf] at hg
      have HG := Lib.hid hg
      clear ck hk hg e1 e2 e3 h hA ho h1 h2 h3 h4 h5 h6 h7 h8' h9 h10 h11 h12 hlk hc hf hin hm hK
      go_enter Tryz.func14, Tryz.ntmps14
      go_wp2_with fail
      go_at_call 26
      refine CK.out.mono ?_
      rintro e w1 ⟨rfl, hb1⟩
      have hl1 := HL.out _ hb1
      have hc1 := HC.out _ hb1
      rw [HG.out] at hl1
      simp only [Option.map_some, Option.getD_some, Option.isSome_some] at hl1
      go_wp2_with fail
      go_ret2
      exact ⟨F, rfl, HX.out.below hb1, Keeps.below hb1, fun k hk => .inl hk⟩
    | none =>
      have hn := findX_none.1 hf
      rw [hf] at hg
      have HG := Lib.hid hg
      by_cases hful : 200 ≤ X.length
      · have e1 : addI X l = 0 := by unfold addI; rw [if_pos ho, hf]; simp [hful]
        have e2 : addE X l = 2 := by unfold addE; rw [if_pos ho, if_neg hn, if_pos hful]
        have e3 : addX X l = X := by unfold addX; rw [if_neg (by omega)]
        rw [e1, e2, e3]
        have t0 : ((X.length : Int) == 200) = true := by rw [beq_iff_eq]; omega
        clear ck hk hg e1 e2 e3 h hA ho h1 h2 h3 h4 h5 h6 h7 h8' h9 h10 h11 h12 hlk hc hf hin hn hK
        go_enter Tryz.func14, Tryz.ntmps14
        go_wp2_with fail
        go_at_call 26
        refine CK.out.mono ?_
        rintro e w1 ⟨rfl, hb1⟩
        have hl1 := HL.out _ hb1
        have hc1 := HC.out _ hb1
        rw [HG.out] at hl1
        simp only [Option.map_none, Option.getD_none, Option.isSome_none] at hl1
        go_wp2_with (first | (go_at_call 16; refine (cn.out _ hb1).mono ?_; rintro e w2 ⟨rfl, rfl⟩; dsimp only))
        go_ret2
        exact ⟨F, rfl, HX.out.below hb1, Keeps.below hb1, fun k hk => .inl hk⟩
      · have hX2 : X.length < 200 := by omega
        have e1 : addI X l = X.length := by unfold addI; rw [if_pos ho, hf]; simp [hful]
        have e2 : addE X l = 0 := by unfold addE; rw [if_pos ho, if_neg hn, if_neg hful]
        have e3 : addX X l = X ++ [l] := by unfold addX; rw [if_pos ⟨ho, hn, hX2⟩]
        rw [e1, e2, e3]
        have t0 : ((X.length : Int) == 200) = false := by rw [beq_eq_false_iff_ne]; omega
        have HP := Lib.hid (And.intro h1 (And.intro h2 (And.intro h3 (And.intro h4 (And.intro h5 (And.intro h6 (And.intro h7 (And.intro h8' (And.intro h9 (And.intro h10 (And.intro h11 h12)))))))))))
        have hbq : bi ≠ q := h7.ne_cells h1
        have HO := Lib.hid ho
        have HNN := Lib.hid hn
        have HA := Lib.hid hA
        have HK := Lib.hid hK
        clear ck hg e1 e2 e3 h hA h1 h2 h3 h4 h5 h6 h7 h8' h9 h10 h11 h12 hlk hc hf hin hK ho hn
        go_enter Tryz.func14, Tryz.ntmps14
        go_wp2_with fail
        go_at_call 26
        refine CK.out.mono ?_
        rintro e w1 ⟨rfl, hb1⟩
        have hl1 := HL.out _ hb1
        have hc1 := HC.out _ hb1
        rw [HG.out] at hl1
        simp only [Option.map_none, Option.getD_none, Option.isSome_none] at hl1
        go_wp2_with (first
          | (go_at_call 16; refine (cn.out _ hb1).mono ?_; rintro e w2 ⟨rfl, rfl⟩; dsimp only)
          | (at_mapUpdate; refine wpList_store _ rfl (.tmp 38) (.tmp 39) (.tmp 40) 51 rfl 9 3 Tryz.underlying9 Tryz.underlying51 bi X.length DI rfl (HP.out.2.2.2.2.2.2.1.below hb1) (by unfold maxLen; omega) K (.int .i64 X.length) rfl rfl (by unfold maxLen; omega) ?_; intro w2 hM2 hg2))
        have K12 : Keeps [bi] w w2 := (Keeps.below hb1).grown hg2 (fun k hk => by left; simp at hk; simp [hk])
        have hqB := lt_of_block HP.out.1
        have hq2 : w2.heap[q]? = some (.cells #[.slice B X.length c, .map (some bi), .map (some bo)] 54 (0, 0)) := K12.block HP.out.1 (by simp; exact fun e => hbq e.symm)
        have HQ := Lib.hid (fun (W : World) (hW : Keeps [] w2 W) => (hW.block hq2 (by simp) : W.heap[q]? = _))
        have hAw2 := HA.out.turned HP.out.2.2.2.2.2.2.1 K12
        have cc := Lib.hid (fun W (hW : Below w2.heap.size w2 W) => copied_c A l.length cap l W HO.out (hAw2.below hW))
        have HM2 := Lib.hid (And.intro hM2 K12)
        have hqs : q < w2.heap.size := lt_of_block hq2
        have hs2 := K12.size
        obtain ⟨i0, hi0, hz0, hz1, hz2⟩ := info_parts labs_info
        have hrow2 : ∀ {W W' : World}, Keeps [] W W' → Below w2.heap.size w2 W → W'.ownsRow 0 38 1 (.slice B X.length c) X.length vs := fun hk hb =>
          hk.row ((Keeps.below (F := []) hb).row (K12.row HP.out.2.2.1 (fun k hk e => by
            simp at e
            subst e
            rcases HP.out.2.2.1.2 with ⟨e0, _⟩ | ⟨g0, cp, cur, e0, hb, hh, _⟩
            · rw [e0] at hk; simp [Value.ownBlock] at hk
            · rw [e0] at hk; simp [Value.ownBlock] at hk; subst hk; exact HP.out.2.2.2.2.2.2.1.ne_cells hh rfl)) (by simp)) (by simp)
        have HROW := Lib.hid (fun W W' hk hb => @hrow2 W W' hk hb)
        have HNB := Lib.hid (row_apart HP.out.2.2.1 HP.out.1 (by decide))
        clear hl1 hc1 hM2 hg2 K12 hAw2 hrow2
        refine wp_region_held_drew (S := fun W => True ∧ True) (by kernel_rfl) ⟨trivial, trivial⟩ (fun hHeld => ?_)
        refine held_w (i := 0) (d := some 41) (v := ?_) rfl (by kernel_rfl) (by kernel_rfl) (by kernel_rfl) (fun _ _ _ h => h) (by rfl) ?_ hHeld ?_
        rotate_left
        · intro w' hSw; obtain ⟨q0, q1⟩ := hSw; simp only [List.getElem?_toArray, List.getElem?_cons_zero, List.getElem?_cons_succ]; go_simp; try with_reducible rfl
        try simp only [Act.put, List.setIfInBounds_toArray, List.set_cons_zero, List.set_cons_succ]
        refine held_w (i := 1) (d := some 42) (v := ?_) rfl (by kernel_rfl) (by kernel_rfl) (by kernel_rfl) (fun _ _ _ h => h) (by rfl) ?_ hHeld ?_
        rotate_left
        · intro w' hSw; obtain ⟨q0, q1⟩ := hSw; simp only [List.getElem?_toArray, List.getElem?_cons_zero, List.getElem?_cons_succ]; go_simp; try with_reducible rfl
        try simp only [Act.put, List.setIfInBounds_toArray, List.set_cons_zero, List.set_cons_succ]
        refine held_w (i := 2) (d := some 43) (v := ?_) rfl (by kernel_rfl) (by kernel_rfl) (by kernel_rfl) (fun _ _ _ h => h) (by rfl) ?_ hHeld ?_
        rotate_left
        · intro w' hSw; obtain ⟨q0, q1⟩ := hSw; simp only [List.getElem?_toArray, List.getElem?_cons_zero, List.getElem?_cons_succ]; go_simp; try with_reducible rfl
        try simp only [Act.put, List.setIfInBounds_toArray, List.set_cons_zero, List.set_cons_succ]
        refine held_w (i := 3) (d := some 44) (v := ?_) rfl (by kernel_rfl) (by kernel_rfl) (by kernel_rfl) (fun _ _ _ h => h) (by rfl) ?_ hHeld ?_
        rotate_left
        · intro w' hSw; obtain ⟨q0, q1⟩ := hSw; simp only [List.getElem?_toArray, List.getElem?_cons_zero, List.getElem?_cons_succ]; go_simp; try with_reducible rfl
        try simp only [Act.put, List.setIfInBounds_toArray, List.set_cons_zero, List.set_cons_succ]
        refine held_w (i := 5) (d := some 46) (v := ?_) rfl (by kernel_rfl) (by kernel_rfl) (by kernel_rfl) (fun _ _ _ h => h) (by rfl) ?_ hHeld ?_
        rotate_left
        · intro w' hSw; obtain ⟨q0, q1⟩ := hSw; simp only [List.getElem?_toArray, List.getElem?_cons_zero, List.getElem?_cons_succ]; go_simp; try with_reducible rfl
        try simp only [Act.put, List.setIfInBounds_toArray, List.set_cons_zero, List.set_cons_succ]
        refine held_many (rs := [4, 6]) (by kernel_rfl) (by simp) ⟨?_, ?_, trivial⟩
        · refine ⟨by rfl, fun K hK => ?_⟩
          simp only [List.getElem?_toArray, List.getElem?_cons_zero, List.getElem?_cons_succ]
          have hKx : Keeps [] w2 w2.drew := (Keeps.refl [] w2).drew
          have hcx := blk_cell (HQ.out _ hKx) 0
          simp only [List.getElem?_toArray, List.getElem?_cons_zero] at hcx
          go_simp
          refine hK.out _ _ ⟨trivial, trivial⟩ (fun hHeld => ?_)
          clear hK hKx hcx
          try simp only [Act.put, List.setIfInBounds_toArray, List.set_cons_zero, List.set_cons_succ]
          refine held_c (i := 6) (by kernel_rfl) (by rfl) (fun K hK => ?_)
          simp only [List.getElem?_toArray, List.getElem?_cons_zero, List.getElem?_cons_succ]
          go_simp
          refine (cc.out _ ((Below.refl _ w2).drew)).mono ?_
          rintro e w4 ⟨⟨g, cg, rfl, hgb, hR⟩, hb4⟩
          have hb4 : Below w2.heap.size w2 w4 := below_of_drew hb4
          have hgb : w2.heap.size ≤ g := hgb
          have HR := Lib.hid hR
          clear hR
          refine hK.out _ _ ⟨trivial, trivial⟩ (fun hHeld => ?_)
          clear hK
          try simp only [Act.put, List.setIfInBounds_toArray, List.set_cons_zero, List.set_cons_succ]
          refine held_c (i := 7) (by kernel_rfl) (by rfl) (fun K hK => ?_)
          simp only [List.getElem?_toArray, List.getElem?_cons_zero, List.getElem?_cons_succ]
          go_simp
          have K25 : Keeps [] w2 (w4.alloc (.cells #[.slice (some ⟨g, 0, none⟩) l.length cg] 38)) := (Keeps.below hb4).alloc _
          have HR5 := Lib.hid (HR.out.keeps (w' := w4.alloc (.cells #[.slice (some ⟨g, 0, none⟩) l.length cg] 38)) (G := []) ((Keeps.refl [] w4).alloc _) (by simp))
          refine hK.out _ _ ⟨trivial, trivial⟩ (fun hHeld => ?_)
          clear hK
          try simp only [Act.put, List.setIfInBounds_toArray, List.set_cons_zero, List.set_cons_succ]
          refine held_c (i := 8) (by kernel_rfl) (by rfl) (fun K hK => ?_)
          simp only [List.getElem?_toArray, List.getElem?_cons_zero, List.getElem?_cons_succ]
          refine wp_append_lies _ (.tmp 45) (.tmp 48) 22 rfl 0 38 i0 (.slice none 0 0) 1 24 Tryz.underlying22 hi0 hz0 hz1 hz2 rfl (by decide) (.slice B X.length c) X.length vs rfl ?_ ⟨w4.heap.size, 0, none⟩ 1 1 [.slice (some ⟨g, 0, none⟩) l.length cg] rfl rfl (cell_one_new _ _ _) (by intro u hu; simp at hu; subst hu; rfl) (by decide) (by unfold maxLen; omega) (by omega) (Nat.zero_le _) _ rfl ?_
          · exact HROW.out _ _ ((Keeps.refl [] w4).alloc _) hb4
          intro gs cap' w6 o1 hg6 hl0 hl1
          have K56 : Keeps (Value.slice B X.length c).ownBlock.toList (w4.alloc (.cells #[.slice (some ⟨g, 0, none⟩) l.length cg] 38)) w6 := (Keeps.refl _ _).grown hg6 (fun k hk => by left; simp [hk])
          have hM := mid_of HX.out HO.out HNN.out HP.out.1 HP.out.2.1 HP.out.2.2.1 HP.out.2.2.2.1 HP.out.2.2.2.2.1 HP.out.2.2.2.2.2.1 HP.out.2.2.2.2.2.2.1 HP.out.2.2.2.2.2.2.2.1 HP.out.2.2.2.2.2.2.2.2.1 HP.out.2.2.2.2.2.2.2.2.2.1 HP.out.2.2.2.2.2.2.2.2.2.2.1 HP.out.2.2.2.2.2.2.2.2.2.2.2
            HM2.out.2 (by rw [HK.out]; exact HM2.out.1) K25 HR5.out hgb K56 o1 (hl0.imp (fun h => h) (fun h => by omega))
          have hq6 : w6.heap[q]? = some (.cells #[.slice B X.length c, .map (some bi), .map (some bo)] 54 (0, 0)) := K56.block (HQ.out _ K25) (fun hm => by simp at hm; exact HNB.out q hm rfl)
          have HMid := Lib.hid hM
          have HQ6 := Lib.hid hq6
          refine hK.out _ _ ⟨trivial, trivial⟩ (fun hHeld => ?_)
          clear hK o1 hg6 hl0 hl1 hM hq6
          try simp only [Act.put, List.setIfInBounds_toArray, List.set_cons_zero, List.set_cons_succ]
          refine held_w (i := 9) (d := some 50) (v := ?_) rfl (by kernel_rfl) (by kernel_rfl) (by kernel_rfl) (fun _ _ _ h => h) (by rfl) ?_ hHeld ?_
          rotate_left
          · intro w' hSw; obtain ⟨q0, q1⟩ := hSw; simp only [List.getElem?_toArray, List.getElem?_cons_zero, List.getElem?_cons_succ]; go_simp; try with_reducible rfl
          try simp only [Act.put, List.setIfInBounds_toArray, List.set_cons_zero, List.set_cons_succ]
          refine held_w (i := 10) (d := some 51) (v := ?_) rfl (by kernel_rfl) (by kernel_rfl) (by kernel_rfl) (fun _ _ _ h => h) (by rfl) ?_ hHeld ?_
          rotate_left
          · intro w' hSw; obtain ⟨q0, q1⟩ := hSw; simp only [List.getElem?_toArray, List.getElem?_cons_zero, List.getElem?_cons_succ]; go_simp; try with_reducible rfl
          try simp only [Act.put, List.setIfInBounds_toArray, List.set_cons_zero, List.set_cons_succ]
          refine held_c (i := 11) (by kernel_rfl) (by rfl) (fun K hK => ?_)
          simp only [List.getElem?_toArray, List.getElem?_cons_zero, List.getElem?_cons_succ]
          have hcx := blk_cell HQ6.out 0
          have hfx := blk_free HQ6.out 0
          simp only [List.getElem?_toArray, List.getElem?_cons_zero] at hcx
          go_simp
          refine hK.out _ _ ⟨trivial, trivial⟩ (fun hHeld => ?_)
          clear hK hcx hfx
          try simp only [Act.put, List.setIfInBounds_toArray, List.set_cons_zero, List.set_cons_succ]
          refine wpAnyH_done (by kernel_rfl) ?_ _
          go_wp2_with fail
          refine (enter_c q X.length bo bi _ (X.length + 1) cap' g cg l FH (pstX X) (2 * (pstX X).length) _ HMid.out.q7 HMid.out.qFH HMid.out.cell HMid.out.new.1 HMid.out.new.2.2 HMid.out.hav HO.out (by omega) (by omega) (by have := HX.out.good.plen; omega) HX.out.good.plen).mono ?_
          rintro e w8 ⟨rfl, hent⟩
          have HD := Lib.hid (HMid.out.done HX.out.good HO.out HNN.out hX2 hent)
          clear hent
          go_wp2_with fail
          go_ret2
          obtain ⟨F', d1, d2, d3⟩ := HD.out
          exact ⟨F', rfl, d1, d2, d3⟩
        · refine ⟨by rfl, fun K hK => ?_⟩
          simp only [List.getElem?_toArray, List.getElem?_cons_zero, List.getElem?_cons_succ]
          go_simp
          refine (cc.out _ ((Below.refl _ w2).drew)).mono ?_
          rintro e w4 ⟨⟨g, cg, rfl, hgb, hR⟩, hb4⟩
          have hb4 : Below w2.heap.size w2 w4 := below_of_drew hb4
          have hgb : w2.heap.size ≤ g := hgb
          have HR := Lib.hid hR
          clear hR
          refine hK.out _ _ ⟨trivial, trivial⟩ (fun hHeld => ?_)
          clear hK
          try simp only [Act.put, List.setIfInBounds_toArray, List.set_cons_zero, List.set_cons_succ]
          refine held_many (rs := [4, 7]) (by kernel_rfl) (by simp) ⟨?_, ?_, trivial⟩
          · refine ⟨by rfl, fun K hK => ?_⟩
            simp only [List.getElem?_toArray, List.getElem?_cons_zero, List.getElem?_cons_succ]
            have hKx : Keeps [] w2 w4 := Keeps.below hb4
            have hcx := blk_cell (HQ.out _ hKx) 0
            simp only [List.getElem?_toArray, List.getElem?_cons_zero] at hcx
            go_simp
            refine hK.out _ _ ⟨trivial, trivial⟩ (fun hHeld => ?_)
            clear hK hKx hcx
            try simp only [Act.put, List.setIfInBounds_toArray, List.set_cons_zero, List.set_cons_succ]
            refine held_c (i := 7) (by kernel_rfl) (by rfl) (fun K hK => ?_)
            simp only [List.getElem?_toArray, List.getElem?_cons_zero, List.getElem?_cons_succ]
            go_simp
            have K25 : Keeps [] w2 (w4.alloc (.cells #[.slice (some ⟨g, 0, none⟩) l.length cg] 38)) := (Keeps.below hb4).alloc _
            have HR5 := Lib.hid (HR.out.keeps (w' := w4.alloc (.cells #[.slice (some ⟨g, 0, none⟩) l.length cg] 38)) (G := []) ((Keeps.refl [] w4).alloc _) (by simp))
            refine hK.out _ _ ⟨trivial, trivial⟩ (fun hHeld => ?_)
            clear hK
            try simp only [Act.put, List.setIfInBounds_toArray, List.set_cons_zero, List.set_cons_succ]
            refine held_c (i := 8) (by kernel_rfl) (by rfl) (fun K hK => ?_)
            simp only [List.getElem?_toArray, List.getElem?_cons_zero, List.getElem?_cons_succ]
            refine wp_append_lies _ (.tmp 45) (.tmp 48) 22 rfl 0 38 i0 (.slice none 0 0) 1 24 Tryz.underlying22 hi0 hz0 hz1 hz2 rfl (by decide) (.slice B X.length c) X.length vs rfl ?_ ⟨w4.heap.size, 0, none⟩ 1 1 [.slice (some ⟨g, 0, none⟩) l.length cg] rfl rfl (cell_one_new _ _ _) (by intro u hu; simp at hu; subst hu; rfl) (by decide) (by unfold maxLen; omega) (by omega) (Nat.zero_le _) _ rfl ?_
            · exact HROW.out _ _ ((Keeps.refl [] w4).alloc _) hb4
            intro gs cap' w6 o1 hg6 hl0 hl1
            have K56 : Keeps (Value.slice B X.length c).ownBlock.toList (w4.alloc (.cells #[.slice (some ⟨g, 0, none⟩) l.length cg] 38)) w6 := (Keeps.refl _ _).grown hg6 (fun k hk => by left; simp [hk])
            have hM := mid_of HX.out HO.out HNN.out HP.out.1 HP.out.2.1 HP.out.2.2.1 HP.out.2.2.2.1 HP.out.2.2.2.2.1 HP.out.2.2.2.2.2.1 HP.out.2.2.2.2.2.2.1 HP.out.2.2.2.2.2.2.2.1 HP.out.2.2.2.2.2.2.2.2.1 HP.out.2.2.2.2.2.2.2.2.2.1 HP.out.2.2.2.2.2.2.2.2.2.2.1 HP.out.2.2.2.2.2.2.2.2.2.2.2
              HM2.out.2 (by rw [HK.out]; exact HM2.out.1) K25 HR5.out hgb K56 o1 (hl0.imp (fun h => h) (fun h => by omega))
            have hq6 : w6.heap[q]? = some (.cells #[.slice B X.length c, .map (some bi), .map (some bo)] 54 (0, 0)) := K56.block (HQ.out _ K25) (fun hm => by simp at hm; exact HNB.out q hm rfl)
            have HMid := Lib.hid hM
            have HQ6 := Lib.hid hq6
            refine hK.out _ _ ⟨trivial, trivial⟩ (fun hHeld => ?_)
            clear hK o1 hg6 hl0 hl1 hM hq6
            try simp only [Act.put, List.setIfInBounds_toArray, List.set_cons_zero, List.set_cons_succ]
            refine held_w (i := 9) (d := some 50) (v := ?_) rfl (by kernel_rfl) (by kernel_rfl) (by kernel_rfl) (fun _ _ _ h => h) (by rfl) ?_ hHeld ?_
            rotate_left
            · intro w' hSw; obtain ⟨q0, q1⟩ := hSw; simp only [List.getElem?_toArray, List.getElem?_cons_zero, List.getElem?_cons_succ]; go_simp; try with_reducible rfl
            try simp only [Act.put, List.setIfInBounds_toArray, List.set_cons_zero, List.set_cons_succ]
            refine held_w (i := 10) (d := some 51) (v := ?_) rfl (by kernel_rfl) (by kernel_rfl) (by kernel_rfl) (fun _ _ _ h => h) (by rfl) ?_ hHeld ?_
            rotate_left
            · intro w' hSw; obtain ⟨q0, q1⟩ := hSw; simp only [List.getElem?_toArray, List.getElem?_cons_zero, List.getElem?_cons_succ]; go_simp; try with_reducible rfl
            try simp only [Act.put, List.setIfInBounds_toArray, List.set_cons_zero, List.set_cons_succ]
            refine held_c (i := 11) (by kernel_rfl) (by rfl) (fun K hK => ?_)
            simp only [List.getElem?_toArray, List.getElem?_cons_zero, List.getElem?_cons_succ]
            have hcx := blk_cell HQ6.out 0
            have hfx := blk_free HQ6.out 0
            simp only [List.getElem?_toArray, List.getElem?_cons_zero] at hcx
            go_simp
            refine hK.out _ _ ⟨trivial, trivial⟩ (fun hHeld => ?_)
            clear hK hcx hfx
            try simp only [Act.put, List.setIfInBounds_toArray, List.set_cons_zero, List.set_cons_succ]
            refine wpAnyH_done (by kernel_rfl) ?_ _
            go_wp2_with fail
            refine (enter_c q X.length bo bi _ (X.length + 1) cap' g cg l FH (pstX X) (2 * (pstX X).length) _ HMid.out.q7 HMid.out.qFH HMid.out.cell HMid.out.new.1 HMid.out.new.2.2 HMid.out.hav HO.out (by omega) (by omega) (by have := HX.out.good.plen; omega) HX.out.good.plen).mono ?_
            rintro e w8 ⟨rfl, hent⟩
            have HD := Lib.hid (HMid.out.done HX.out.good HO.out HNN.out hX2 hent)
            clear hent
            go_wp2_with fail
            go_ret2
            obtain ⟨F', d1, d2, d3⟩ := HD.out
            exact ⟨F', rfl, d1, d2, d3⟩
          · refine ⟨by rfl, fun K hK => ?_⟩
            simp only [List.getElem?_toArray, List.getElem?_cons_zero, List.getElem?_cons_succ]
            go_simp
            have K25 : Keeps [] w2 (w4.alloc (.cells #[.slice (some ⟨g, 0, none⟩) l.length cg] 38)) := (Keeps.below hb4).alloc _
            have HR5 := Lib.hid (HR.out.keeps (w' := w4.alloc (.cells #[.slice (some ⟨g, 0, none⟩) l.length cg] 38)) (G := []) ((Keeps.refl [] w4).alloc _) (by simp))
            refine hK.out _ _ ⟨trivial, trivial⟩ (fun hHeld => ?_)
            clear hK
            try simp only [Act.put, List.setIfInBounds_toArray, List.set_cons_zero, List.set_cons_succ]
            refine held_c (i := 4) (by kernel_rfl) (by rfl) (fun K hK => ?_)
            simp only [List.getElem?_toArray, List.getElem?_cons_zero, List.getElem?_cons_succ]
            have hKx : Keeps [] w2 w4 := Keeps.below hb4
            have hKx := K25
            have hcx := blk_cell (HQ.out _ hKx) 0
            simp only [List.getElem?_toArray, List.getElem?_cons_zero] at hcx
            go_simp
            refine hK.out _ _ ⟨trivial, trivial⟩ (fun hHeld => ?_)
            clear hK hKx hcx
            try simp only [Act.put, List.setIfInBounds_toArray, List.set_cons_zero, List.set_cons_succ]
            refine held_c (i := 8) (by kernel_rfl) (by rfl) (fun K hK => ?_)
            simp only [List.getElem?_toArray, List.getElem?_cons_zero, List.getElem?_cons_succ]
            refine wp_append_lies _ (.tmp 45) (.tmp 48) 22 rfl 0 38 i0 (.slice none 0 0) 1 24 Tryz.underlying22 hi0 hz0 hz1 hz2 rfl (by decide) (.slice B X.length c) X.length vs rfl ?_ ⟨w4.heap.size, 0, none⟩ 1 1 [.slice (some ⟨g, 0, none⟩) l.length cg] rfl rfl (cell_one_new _ _ _) (by intro u hu; simp at hu; subst hu; rfl) (by decide) (by unfold maxLen; omega) (by omega) (Nat.zero_le _) _ rfl ?_
            · exact HROW.out _ _ ((Keeps.refl [] w4).alloc _) hb4
            intro gs cap' w6 o1 hg6 hl0 hl1
            have K56 : Keeps (Value.slice B X.length c).ownBlock.toList (w4.alloc (.cells #[.slice (some ⟨g, 0, none⟩) l.length cg] 38)) w6 := (Keeps.refl _ _).grown hg6 (fun k hk => by left; simp [hk])
            have hM := mid_of HX.out HO.out HNN.out HP.out.1 HP.out.2.1 HP.out.2.2.1 HP.out.2.2.2.1 HP.out.2.2.2.2.1 HP.out.2.2.2.2.2.1 HP.out.2.2.2.2.2.2.1 HP.out.2.2.2.2.2.2.2.1 HP.out.2.2.2.2.2.2.2.2.1 HP.out.2.2.2.2.2.2.2.2.2.1 HP.out.2.2.2.2.2.2.2.2.2.2.1 HP.out.2.2.2.2.2.2.2.2.2.2.2
              HM2.out.2 (by rw [HK.out]; exact HM2.out.1) K25 HR5.out hgb K56 o1 (hl0.imp (fun h => h) (fun h => by omega))
            have hq6 : w6.heap[q]? = some (.cells #[.slice B X.length c, .map (some bi), .map (some bo)] 54 (0, 0)) := K56.block (HQ.out _ K25) (fun hm => by simp at hm; exact HNB.out q hm rfl)
            have HMid := Lib.hid hM
            have HQ6 := Lib.hid hq6
            refine hK.out _ _ ⟨trivial, trivial⟩ (fun hHeld => ?_)
            clear hK o1 hg6 hl0 hl1 hM hq6
            try simp only [Act.put, List.setIfInBounds_toArray, List.set_cons_zero, List.set_cons_succ]
            refine held_w (i := 9) (d := some 50) (v := ?_) rfl (by kernel_rfl) (by kernel_rfl) (by kernel_rfl) (fun _ _ _ h => h) (by rfl) ?_ hHeld ?_
            rotate_left
            · intro w' hSw; obtain ⟨q0, q1⟩ := hSw; simp only [List.getElem?_toArray, List.getElem?_cons_zero, List.getElem?_cons_succ]; go_simp; try with_reducible rfl
            try simp only [Act.put, List.setIfInBounds_toArray, List.set_cons_zero, List.set_cons_succ]
            refine held_w (i := 10) (d := some 51) (v := ?_) rfl (by kernel_rfl) (by kernel_rfl) (by kernel_rfl) (fun _ _ _ h => h) (by rfl) ?_ hHeld ?_
            rotate_left
            · intro w' hSw; obtain ⟨q0, q1⟩ := hSw; simp only [List.getElem?_toArray, List.getElem?_cons_zero, List.getElem?_cons_succ]; go_simp; try with_reducible rfl
            try simp only [Act.put, List.setIfInBounds_toArray, List.set_cons_zero, List.set_cons_succ]
            refine held_c (i := 11) (by kernel_rfl) (by rfl) (fun K hK => ?_)
            simp only [List.getElem?_toArray, List.getElem?_cons_zero, List.getElem?_cons_succ]
            have hcx := blk_cell HQ6.out 0
            have hfx := blk_free HQ6.out 0
            simp only [List.getElem?_toArray, List.getElem?_cons_zero] at hcx
            go_simp
            refine hK.out _ _ ⟨trivial, trivial⟩ (fun hHeld => ?_)
            clear hK hcx hfx
            try simp only [Act.put, List.setIfInBounds_toArray, List.set_cons_zero, List.set_cons_succ]
            refine wpAnyH_done (by kernel_rfl) ?_ _
            go_wp2_with fail
            refine (enter_c q X.length bo bi _ (X.length + 1) cap' g cg l FH (pstX X) (2 * (pstX X).length) _ HMid.out.q7 HMid.out.qFH HMid.out.cell HMid.out.new.1 HMid.out.new.2.2 HMid.out.hav HO.out (by omega) (by omega) (by have := HX.out.good.plen; omega) HX.out.good.plen).mono ?_
            rintro e w8 ⟨rfl, hent⟩
            have HD := Lib.hid (HMid.out.done HX.out.good HO.out HNN.out hX2 hent)
            clear hent
            go_wp2_with fail
            go_ret2
            obtain ⟨F', d1, d2, d3⟩ := HD.out
            exact ⟨F', rfl, d1, d2, d3⟩
end Go.Proofs.YtdbifbgjbfnfmaaGreatDoor
/-
  Layer 7 (index): the program's Encode, guess and Decode.
-/
namespace Go.Proofs.YtdbifbgjbfnfmaaGreatDoor
open Go.RowKit Go.Deep
attribute [local go_sem] str_size str_append str_toList str_get str_extract
set_option linter.unusedVariables false
set_option linter.unusedSimpArgs false
end Go.Proofs.YtdbifbgjbfnfmaaGreatDoor
/-
  Layer 6 (post): where the lowest one stands; which are wanted.
-/
namespace Go.Proofs.YtdbifbgjbfnfmaaGreatDoor
open Go.RowKit Go.Deep
set_option linter.unusedVariables false
set_option linter.unusedSimpArgs false
theorem wantAnd_c (p q : Bool) (w : World) : Calls Tryz.prog 37 #[.bool p, .bool q] w fun e w' => e = .returned (.bool (fAnd p q)) ∧ w = w' := by
  cases p <;> cases q
  all_goals
    go_enter Tryz.func37, Tryz.ntmps37
    go_wp2_with fail
    go_ret
    exact ⟨rfl, rfl⟩
theorem wantOr_c (p q : Bool) (w : World) : Calls Tryz.prog 91 #[.bool p, .bool q] w fun e w' => e = .returned (.bool (fOr p q)) ∧ w = w' := by
  cases p <;> cases q
  all_goals
    go_enter Tryz.func91, Tryz.ntmps91
    go_wp2_with fail
    go_ret
    exact ⟨rfl, rfl⟩
theorem wantNot_c (p q : Bool) (w : World) : Calls Tryz.prog 90 #[.bool p, .bool q] w fun e w' => e = .returned (.bool (fNot p q)) ∧ w = w' := by
  cases p <;> cases q
  all_goals
    go_enter Tryz.func90, Tryz.ntmps90
    go_wp2_with fail
    go_ret
    exact ⟨rfl, rfl⟩
theorem ret_two {a b c d : Bool} (h : a = c) (k : b = d) : Ending.returned (.tuple #[.bool a, .bool b]) = .returned (.tuple #[.bool c, .bool d]) := by rw [h, k]
theorem IAt.head {w : World} {A : Option Addr} {n cap : Nat} {x : Int} {l : List Int} (h : IAt w A n cap (x :: l)) :
    ∃ ad, A = some ad ∧ ad.block < w.heap.size ∧ w.cell? ad = some (.int .i64 x) ∧ -9223372036854775808 ≤ x ∧ x ≤ 9223372036854775807 := by
  obtain ⟨⟨r1, r2⟩, ad, rfl, h2, h3⟩ := h.2.2 0 (by simp)
  exact ⟨ad, rfl, h2, h3, r1, r2⟩
set_option maxRecDepth 100000 in
theorem nextIn_c (A A' : Option Addr) (len len' cap cap' : Nat) (l m : List Int) (w : World) (hl : l.length ≤ 100000) (hm : m.length ≤ 100000) (hA : IAt w A len cap l) (hB : IAt w A' len' cap' m) :
    Calls Tryz.prog 61 #[.slice A len cap, .slice A' len' cap'] w fun e w' => e = .returned (.tuple #[.bool (inA l m), .bool (inB l m)]) ∧ Below w.heap.size w w' := by
  have hle := hA.1
  have hme := hB.1
  subst hle hme
  match l, m with
  | [], [] =>
    go_enter Tryz.func61, Tryz.ntmps61
    go_wp2_with fail
    go_ret2
    exact ⟨rfl, Below.refl _ _⟩
  | [], y :: m =>
    go_enter Tryz.func61, Tryz.ntmps61
    go_wp2_with fail
    go_ret2
    exact ⟨ret_two (by simp [inA]) (by simp [inB]; try omega), Below.refl _ _⟩
  | x :: l, [] =>
    go_enter Tryz.func61, Tryz.ntmps61
    go_wp2_with fail
    go_ret2
    exact ⟨ret_two (by simp [inA]; try omega) (by simp [inB]), Below.refl _ _⟩
  | x :: l, y :: m =>
    obtain ⟨ad, rfl, h2, h3, r1, r2⟩ := hA.head
    obtain ⟨ad', rfl, k2, k3, s1, s2⟩ := hB.head
    have cc := fun W => Tryz.cmp_Compare_int x y W
    obtain ⟨C, hC⟩ : ∃ C, Lib.compareInt x y = C := ⟨_, rfl⟩
    rw [hC] at cc
    have hx : inA (x :: l) (y :: m) = decide (C ≤ 0) ∧ inB (x :: l) (y :: m) = decide (C ≥ 0) := by
      subst hC
      show decide (x ≤ y) = decide (Lib.compareInt x y ≤ 0) ∧ decide (y ≤ x) = decide (Lib.compareInt x y ≥ 0)
      unfold Lib.compareInt
      rcases Int.lt_trichotomy x y with h | h | h
      · rw [if_pos h]; exact ⟨by rw [decide_eq_true (show x ≤ y by omega)]; rfl, by rw [decide_eq_false (show ¬ y ≤ x by omega)]; rfl⟩
      · rw [if_neg (by omega), if_neg (by omega)]; exact ⟨by rw [decide_eq_true (show x ≤ y by omega)]; rfl, by rw [decide_eq_true (show y ≤ x by omega)]; rfl⟩
      · rw [if_neg (by omega), if_pos h]; exact ⟨by rw [decide_eq_false (show ¬ x ≤ y by omega)]; rfl, by rw [decide_eq_true (show y ≤ x by omega)]; rfl⟩
    have t1 : ((l.length : Int) + 1 == 0) = false := by simpa using by omega
    have t2 : ((m.length : Int) + 1 == 0) = false := by simpa using by omega
    clear hC
    go_enter Tryz.func61, Tryz.ntmps61
    go_wp2_with fail
    go_quiet (first | (go_at_call 87; exact Calls.quiet_of_same ((cc _).mono fun _ _ ⟨a, b⟩ => ⟨a, b⟩)))
    go_wp2_with fail
    go_ret2
    exact ⟨ret_two hx.1.symm hx.2.symm, below_drewN (Below.refl _ _) _⟩
end Go.Proofs.YtdbifbgjbfnfmaaGreatDoor
/-
  Layer 6 (post): the document's Or.
-/
namespace Go.Proofs.YtdbifbgjbfnfmaaGreatDoor
open Go.RowKit Go.Deep
set_option linter.unusedVariables false
set_option linter.unusedSimpArgs false
/-- What stands from place k on. -/
theorem IAt.dropped {w : World} {A : Option Addr} {n cap : Nat} {l : List Int} (h : IAt w A n cap l) (k : Nat) (hk : k ≤ n) : IAt w (if cap = k then A else A.map (·.add k)) (n - k) (cap - k) (l.drop k) := by
  have h1 := h.1
  have h2 := h.2.1
  refine ⟨by rw [List.length_drop, h1], by omega, fun i hi => ?_⟩
  rw [List.length_drop] at hi
  obtain ⟨r, ad, rfl, b1, b2⟩ := h.2.2 (k + i) (by omega)
  rw [if_neg (show ¬ cap = k by omega)]
  have ea : (ad.add k).add i = ad.add (k + i) := by
    cases i with
    | zero => rfl
    | succ i => cases k with
      | zero => simp [Addr.add]
      | succ k => simp [Addr.add]; omega
  refine ⟨by simpa using r, _, rfl, ?_, ?_⟩
  · rw [ea]; exact b1
  · rw [ea]; simpa using b2
theorem IAt.cells {w : World} {ad : Addr} {n cap : Nat} {l : List Int} (h : IAt w (some ad) n cap l) : ∀ j u, (intC l)[j]? = some u → w.cell? (ad.add j) = some u := by
  intro j u hu
  have hj : j < l.length := by
    rcases Nat.lt_or_ge j l.length with hj | hj
    · exact hj
    · rw [List.getElem?_eq_none (by simpa [intC] using hj)] at hu; cases hu
  obtain ⟨_, ad', e, _, h3⟩ := h.2.2 j hj
  injection e with e
  subst e
  rw [h3]
  have : (intC l)[j]? = some (.int .i64 l[j]) := by simp [intC, hj]
  rw [this] at hu
  exact hu
/-- Integers behind integers: the source may be nil. -/
theorem app_ints {w : World} {ops : Array Oper} {rest : List Oper} {o : Oper} {a : Act} {Q : Exit → Act → World → Prop} (hgd : o.guard = none) (s x : Operand)
    (ho : o.op = .call { callee := .builtin .append, args := #[s, x], argTypes := #[32, 32] })
    {B : Nat} {v : Value} {l : List Int} (hs : a.eval s = v) (hN : NewI B v l w) (A : Option Addr) (m c : Nat) (L : List Int) (hx : a.eval x = .slice A m c) (hA : IAt w A m c L)
    (hlen : l.length + L.length ≤ 100000) (hB : B ≤ w.heap.size)
    (h : ∀ v' w', NewI B v' (l ++ L) w' → Below B w w' → wpList Tryz.prog ops Q rest (a.put o.dst v') w') :
    wpList Tryz.prog ops Q (o :: rest) a w := by
  obtain ⟨i0, hi0, hz0, hz1, hz2⟩ := info_parts int_info
  have hm := hA.1
  subst hm
  rcases A with _ | ad
  · have hL : L = [] := by
      cases L with
      | nil => rfl
      | cons y L => obtain ⟨_, ad, e, _⟩ := hA.2.2 0 (by simp); cases e
    subst hL
    have hrun : (Builtin.append_ #[32, 32] o.type #[v, .slice none 0 c]).run Tryz.prog w = .ok v w := by
      rcases hN.own.2 with ⟨rfl, _⟩ | ⟨g, cap, cur, rfl, _, _, hnc, _⟩
      · simp [Builtin.append_, run_underlying Tryz.underlying32, sizeOf, typeInfo, hi0, Builtin.lenOf, Builtin.firstCells]
      · simp [Builtin.append_, run_underlying Tryz.underlying32, sizeOf, typeInfo, hi0, Builtin.lenOf, Builtin.firstCells, hnc, storeCells]
    refine wpList_plain hgd fun K hK => ?_
    unfold Oper.wp execOp
    simp only [ho, resolve, invoke, builtin, Sem.run_bind, Sem.run_pure, Result.andThen_ok, List.map_toArray, List.map_cons, List.map_nil, hs, hx, hrun, List.length_nil]
    exact hK _ _ (h v w (by simpa using hN) (Below.refl _ _))
  · refine wpList_append_own_at _ hgd s x 32 ho B 3 i0 (.int .i64 0) 1 8 Tryz.underlying32 hi0 hz0 hz1 hz2 rfl (by decide) v l.length _ hs hN.own ad L.length c (intC L) hx (by simp [intC]) hA.cells ?_ (by unfold maxLen; omega) (by omega) hB ?_
    · intro u hu; obtain ⟨y, _, rfl⟩ := List.mem_map.1 hu; rfl
    · intro v' w' hown hg _ _
      refine h v' w' ⟨?_, ?_⟩ ?_
      · rw [intC_append, List.length_append]; exact hown
      · intro y hy
        rcases List.mem_append.1 hy with hy | hy
        · exact hN.rng y hy
        · obtain ⟨j, hj, rfl⟩ := List.getElem_of_mem hy
          exact (hA.2.2 j hj).1
      · exact (Below.refl B w).grown hg hB (fun k hk => (hN.own.lt k hk).1)
theorem or_nil (b : List Int) : mergeL fOr [] b = b := by
  induction b with
  | nil => rw [mergeL]
  | cons y b ih => rw [mergeL, ih]; rfl
theorem or_up {x y : Int} {a b : List Int} (h : y < x) : mergeL fOr (x :: a) (y :: b) = y :: mergeL fOr (x :: a) b := by
  rw [mergeL, if_neg (by omega), if_pos h]; rfl
theorem or_eq {x : Int} {a b : List Int} : mergeL fOr (x :: a) (x :: b) = x :: mergeL fOr a b := by
  rw [mergeL, if_neg (by omega), if_neg (by omega)]; rfl
theorem or_low {x y : Int} {a b : List Int} (h : x < y) : mergeL fOr (x :: a) (y :: b) = x :: mergeL fOr a (y :: b) := by
  rw [mergeL, if_pos h]; rfl
theorem or_end {x : Int} {a : List Int} : mergeL fOr (x :: a) [] = x :: mergeL fOr a [] := by
  rw [mergeL]; rfl
end Go.Proofs.YtdbifbgjbfnfmaaGreatDoor
