/-
  Layer 7 (index): the law IndexBoth returns true.
-/
import Derived.Test.YtdbifbgjbfnfmaaDoorM18
import Derived.Test.YtdbifbgjbfnfmaaDoorM15
namespace Go.Proofs.YtdbifbgjbfnfmaaDoor
open Go.RowKit Go.Deep
attribute [local go_sem] str_size str_append str_toList str_get str_extract
set_option linter.unusedVariables false
set_option linter.unusedSimpArgs false
theorem meant_both (X : Ix) (a b : List Mat) (i : Nat) : meant X (a ++ b) i = (meant X a i && meant X b i) := by simp [meant, allL]
theorem sel_both (X : Ix) (a b : List Mat) (n : Nat) : selN X (a ++ b) n = andL (selN X a n) (selN X b n) ∧ selN X (b ++ a) n = selN X (a ++ b) n := by
  refine ⟨up_ext (selN_up _ _ _) (up_filter _ (selN_up _ _ _)) fun x => ?_, ?_⟩
  · simp only [andL, List.mem_filter, decide_eq_true_eq]
    rw [selN_mem, selN_mem, selN_mem]
    constructor
    · rintro ⟨i, h1, h2, h3⟩
      rw [meant_both, Bool.and_eq_true] at h3
      exact ⟨⟨i, h1, h2, h3.1⟩, ⟨i, h1, h2, h3.2⟩⟩
    · rintro ⟨⟨i, h1, h2, h3⟩, ⟨j, h4, h5, h6⟩⟩
      obtain rfl : i = j := by omega
      exact ⟨i, h1, h2, by rw [meant_both, h3, h6]; rfl⟩
  · unfold selN
    congr 1
    congr 1
    funext i
    rw [meant_both, meant_both, Bool.and_comm]
theorem chk_both (a b : List Mat) : chkAll (a ++ b) = (chkAll a && chkAll b) := by simp [chkAll]
theorem small_both {a b : List Mat} (ha : Small20 a) (hb : Small20 b) : SmallMs (a ++ b) := ⟨by have := ha.1; have := hb.1; simp; omega, fun m hm => by
  rcases List.mem_append.1 hm with hm | hm
  · exact ha.2 m hm
  · exact hb.2 m hm⟩
theorem andI {A A' : Option Addr} {cap cap' : Nat} {l m R : List Int} {w : World} (hR : andL l m = R) (hl : l.length ≤ 10000) (hm : m.length ≤ 10000) (hA : NewI 0 (.slice A l.length cap) l w) (hB : NewI 0 (.slice A' m.length cap') m w) :
    Calls Tryd.prog 29 #[.slice A l.length cap, .slice A' m.length cap'] w fun e w' => (∃ A1 c1, e = .returned (.slice A1 R.length c1) ∧ NewI 0 (.slice A1 R.length c1) R w') ∧ Below w.heap.size w w' := by
  subst hR
  obtain ⟨_, _, e, hI⟩ := hA.at
  injection e with e1 e2 e3
  subst e1 e3
  obtain ⟨_, _, e, hJ⟩ := hB.at
  injection e with e1 e2 e3
  subst e1 e3
  refine (refAnd_c A A' l.length m.length cap cap' l m w hl hm hI hJ).mono ?_
  rintro e w1 ⟨⟨v, rfl, hN⟩, hb⟩
  obtain ⟨A1, c1, rfl, _⟩ := hN.at
  exact ⟨⟨A1, c1, rfl, hN.mono (Nat.zero_le _)⟩, hb⟩
set_option maxRecDepth 100000 in
set_option maxHeartbeats 1000000 in
theorem law_IndexBoth (a0 : Option Addr) (len0 cap0 : Nat) (z0 : List (List Lab)) (a1 : Option Addr) (len1 cap1 : Nat) (z1 : List Mat) (a2 : Option Addr) (len2 cap2 : Nat) (z2 : List Mat) (w : World) (hl0 : len0 ≤ maxLen) (w0 : LLAt w a0 len0 cap0 z0) (hl1 : len1 ≤ maxLen) (w1 : MsAt w a1 len1 z1) (hl2 : len2 ≤ maxLen) (w2 : MsAt w a2 len2 z2) (hT : Lib.Utf8Tabs 1 2 w) (hS : w.ShapedOpen Tryd.prog) :
    Calls Tryd.prog 8 #[.slice a0 len0 cap0, .slice a1 len1 cap1, .slice a2 len2 cap2] w fun e w' => e = .returned (.bool true) ∧ Below w.heap.size w w' := by
  have hle0 := w0.1
  subst hle0
  unfold maxLen at hl0
  have hle1 := w1.1
  subst hle1
  unfold maxLen at hl1
  have hle2 := w2.1
  subst hle2
  unfold maxLen at hl2
  have HE := Lib.hid (fun W (h : Below w.heap.size w W) => (Env.mk hT (maxLen_cell7 hS)).below h)
  have Z0 := Lib.hid w0
  have Z1 := Lib.hid w1
  have Z2 := Lib.hid w2
  clear hT hS w0 w1 w2
  obtain ⟨xs, hx1, hx2, hx3, hx4⟩ := ms_vals Z1.out
  obtain ⟨ys, hy1, hy2, hy3, hy4⟩ := ms_vals Z2.out
  have HXS := Lib.hid (And.intro hx1 (And.intro hx2 (And.intro hx3 hx4)))
  have HYS := Lib.hid (And.intro hy1 (And.intro hy2 (And.intro hy3 hy4)))
  have hxl : Hid (z1.length = xs.length) := by show _ = _; rw [← hx1, List.length_map]
  have hyl : Hid (z2.length = ys.length) := by show _ = _; rw [← hy1, List.length_map]
  clear hx1 hx2 hx3 hx4 hy1 hy2 hy3 hy4
  go_enter Tryd.func8, Tryd.ntmps8
  have hb := Below.refl w.heap.size w
  go_wp2_with fail
  refine (heavy7_c _ _ _ z0 _ (by omega) (Z0.out.below hb)).mono ?_
  rintro e v1 ⟨⟨b, rfl, hs⟩, hk⟩
  have hb := below2 hb hk hb.size
  clear hk
  cases b
  case true =>
    go_wp2_with fail
    go_ret
    exact ⟨rfl, hb⟩
  have hs := hs rfl
  have M0 := Lib.hid hs
  clear hs
  go_wp2_with fail
  refine (large7_c _ _ _ z1 _ (by omega) (Z1.out.below hb)).mono ?_
  rintro e v2 ⟨⟨b, rfl, hs⟩, hk⟩
  have hb := below2 hb hk hb.size
  clear hk
  cases b
  case true =>
    go_wp2_with fail
    go_ret
    exact ⟨rfl, hb⟩
  have hs := hs rfl
  have M1 := Lib.hid hs
  have h20 := hs.1
  clear hs
  go_wp2_with fail
  refine (large7_c _ _ _ z2 _ (by omega) (Z2.out.below hb)).mono ?_
  rintro e v3 ⟨⟨b, rfl, hs⟩, hk⟩
  have hb := below2 hb hk hb.size
  clear hk
  cases b
  case true =>
    go_wp2_with fail
    go_ret
    exact ⟨rfl, hb⟩
  have hs := hs rfl
  have M2 := Lib.hid hs
  have h21 := hs.1
  clear hs
  go_wp2_with fail
  refine (made_c _ _ _ z0 _ (Z0.out.below hb) M0.out (HE.out _ hb)).mono ?_
  rintro e v4 ⟨⟨q, p, rfl, hT2⟩, hk⟩
  have HT := Lib.hid (hT2.mono hb.size)
  clear hT2
  have hb := below2 hb hk hb.size
  clear hk
  obtain ⟨X, hX⟩ : ∃ X, addAll [] z0 = X := ⟨_, rfl⟩
  rw [hX] at HT
  have HX := Lib.hid hX
  clear hX
  have hM := made_ms v4
  have HM := Lib.hid hM
  have hbs := hb.size
  have hba : Below w.heap.size w (v4.alloc (.cells #[] 47)) := hb.alloc hbs _
  have hbb : Below v4.heap.size v4 (v4.alloc (.cells #[] 47)) := (Below.refl _ _).alloc (Nat.le_refl _) _
  clear hM
  go_wp2_with (at_builtin; refine app_ms rfl (.tmp 43) (.tmp 44) rfl v4.heap.size _ 0 0 [] rfl HM.out a1 z1.length cap1 xs rfl hxl.out HXS.out.2.2.1 (fun ad h => HXS.out.2.2.2 _ hba ad h) (by omega) (by simp) ?c1)
  case c1 =>
    intro A3 c3 w3 o1 b1
    try rw [Nat.zero_add, List.nil_append] at o1
    try rw [Nat.zero_add]
    have HO := Lib.hid o1
    have hbc := hbb.trans b1
    have hbd := below2 hb hbc hbs
    have b1s := b1.size
    clear o1 b1 hba hbb HM
    go_wp2_with (at_builtin; refine app_ms rfl (.tmp 46) (.tmp 47) rfl v4.heap.size A3 z1.length c3 xs rfl HO.out a2 z2.length cap2 ys rfl hyl.out HYS.out.2.2.1 (fun ad h => HYS.out.2.2.2 _ hbd ad h) (by omega) (by have := hbc.size; omega) ?c2)
    case c2 =>
      intro A4 c4 w4 o2 b2
      have hk := hbc.trans b2
      have hb := below2 hb hk hbs
      have HAB := Lib.hid (row_ms o2 (by rw [List.length_append, ← hxl.out, ← hyl.out]) (HXS.out.2.1.append HYS.out.2.1) hb)
      rw [List.map_append, HXS.out.1, HYS.out.1] at HAB
      have HT := Lib.hid (HT.out.below hk)
      clear o2 b2 b1s HO hbc hbd hk hbs
      have hM := made_ms w4
      have HM := Lib.hid hM
      have hbs := hb.size
      have hba : Below w.heap.size w (w4.alloc (.cells #[] 47)) := hb.alloc hbs _
      have hbb : Below w4.heap.size w4 (w4.alloc (.cells #[] 47)) := (Below.refl _ _).alloc (Nat.le_refl _) _
      clear hM
      go_wp2_with (at_builtin; refine app_ms rfl (.tmp 50) (.tmp 51) rfl w4.heap.size _ 0 0 [] rfl HM.out a2 z2.length cap2 ys rfl hyl.out HYS.out.2.2.1 (fun ad h => HYS.out.2.2.2 _ hba ad h) (by omega) (by simp) ?c1)
      case c1 =>
        intro A3 c3 w3 o1 b1
        try rw [Nat.zero_add, List.nil_append] at o1
        try rw [Nat.zero_add]
        have HO := Lib.hid o1
        have hbc := hbb.trans b1
        have hbd := below2 hb hbc hbs
        have b1s := b1.size
        clear o1 b1 hba hbb HM
        go_wp2_with (at_builtin; refine app_ms rfl (.tmp 53) (.tmp 54) rfl w4.heap.size A3 z2.length c3 ys rfl HO.out a1 z1.length cap1 xs rfl hxl.out HXS.out.2.2.1 (fun ad h => HXS.out.2.2.2 _ hbd ad h) (by omega) (by have := hbc.size; omega) ?c2)
        case c2 =>
          intro A4 c4 w4 o2 b2
          have hk := hbc.trans b2
          have hb := below2 hb hk hbs
          have HBA := Lib.hid (row_ms o2 (by rw [List.length_append, ← hxl.out, ← hyl.out]) (HYS.out.2.1.append HXS.out.2.1) hb)
          rw [List.map_append, HXS.out.1, HYS.out.1] at HBA
          have HT := Lib.hid (HT.out.below hk)
          have HAB := Lib.hid (HAB.out.below hk)
          clear o2 b2 b1s HO hbc hbd hk hbs
          have hsb := sel_both X z1 z2 X.length
          have hcb := chk_both z1 z2
          have hcb2 := chk_both z2 z1
          have HS1 := Lib.hid (small_both M1.out M2.out)
          have HS2 := Lib.hid (small_both M2.out M1.out)
          have HPl := Lib.hid (fun ms => selX_len HT.out.good.1 ms)
          obtain ⟨PA, hPA⟩ : ∃ P, selX X z1 = P := ⟨_, rfl⟩
          obtain ⟨PB, hPB⟩ : ∃ P, selX X z2 = P := ⟨_, rfl⟩
          obtain ⟨PC, hPC⟩ : ∃ P, selX X (z1 ++ z2) = P := ⟨_, rfl⟩
          obtain ⟨PD, hPD⟩ : ∃ P, selX X (z2 ++ z1) = P := ⟨_, rfl⟩
          obtain ⟨EA, hEA⟩ : ∃ E, eM (chkAll z1) = E := ⟨_, rfl⟩
          obtain ⟨EB, hEB⟩ : ∃ E, eM (chkAll z2) = E := ⟨_, rfl⟩
          obtain ⟨EC, hEC⟩ : ∃ E, eM (chkAll (z1 ++ z2)) = E := ⟨_, rfl⟩
          obtain ⟨ED, hED⟩ : ∃ E, eM (chkAll (z2 ++ z1)) = E := ⟨_, rfl⟩
          have lA : PA.length ≤ 200 := hPA ▸ HPl.out z1
          have lB : PB.length ≤ 200 := hPB ▸ HPl.out z2
          have lC : PC.length ≤ 200 := hPC ▸ HPl.out (z1 ++ z2)
          have hcase : (EA = 0 ∧ EB = 0 ∧ EC = 0 ∧ ED = 0 ∧ andL PA PB = PC ∧ PD = PC) ∨ (EA = 0 ∧ EB = 50 ∧ EC = 50 ∧ ED = 50) ∨ (EA = 50 ∧ EB = 0 ∧ EC = 50 ∧ ED = 50) ∨ (EA = 50 ∧ EB = 50 ∧ EC = 50 ∧ ED = 50) := by
            rw [hcb] at hEC
            rw [hcb2] at hED
            cases h1 : chkAll z1 <;> cases h2 : chkAll z2 <;> rw [h1, h2] at hEC hED <;> rw [h1] at hEA <;> rw [h2] at hEB <;> subst hEA hEB hEC hED
            · right; right; right; exact ⟨rfl, rfl, rfl, rfl⟩
            · right; right; left; exact ⟨rfl, rfl, rfl, rfl⟩
            · right; left; exact ⟨rfl, rfl, rfl, rfl⟩
            · left
              have e1 : selX X z1 = selN X z1 X.length := by unfold selX; rw [if_pos h1]
              have e2 : selX X z2 = selN X z2 X.length := by unfold selX; rw [if_pos h2]
              have e3 : selX X (z1 ++ z2) = selN X (z1 ++ z2) X.length := by unfold selX; rw [if_pos (by rw [hcb, h1, h2]; rfl)]
              have e4 : selX X (z2 ++ z1) = selN X (z2 ++ z1) X.length := by unfold selX; rw [if_pos (by rw [hcb2, h1, h2]; rfl)]
              rw [← hPA, ← hPB, ← hPC, ← hPD, e1, e2, e3, e4]
              exact ⟨rfl, rfl, rfl, rfl, hsb.1.symm, hsb.2⟩
          have HA := Lib.hid (And.intro hPA hEA)
          have HB := Lib.hid (And.intro hPB hEB)
          have HC := Lib.hid (And.intro hPC hEC)
          have HD := Lib.hid (And.intro hPD hED)
          have HCase := Lib.hid hcase
          clear hsb hcb hcb2 hPA hPB hPC hPD hEA hEB hEC hED hcase HPl h20 h21
          go_wp2_with fail
          refine (xselect HT.out (Z1.out.below hb) M1.out.to (HE.out _ hb)).mono ?_
          rintro e v41 ⟨⟨A5, c5, rfl, hP⟩, hk⟩
          rw [HA.out.1] at hP ⊢
          rw [HA.out.2]
          have HT := Lib.hid (HT.out.below hk)
          have HAB := Lib.hid (HAB.out.below hk)
          have HBA := Lib.hid (HBA.out.below hk)
          have RP := Lib.hid hP
          have hb := below2 hb hk hb.size
          clear hk hP
          go_wp2_with fail
          refine (xselect HT.out (Z2.out.below hb) M2.out.to (HE.out _ hb)).mono ?_
          rintro e v42 ⟨⟨A6, c6, rfl, hQ⟩, hk⟩
          rw [HB.out.1] at hQ ⊢
          rw [HB.out.2]
          have HT := Lib.hid (HT.out.below hk)
          have HAB := Lib.hid (HAB.out.below hk)
          have HBA := Lib.hid (HBA.out.below hk)
          have RP := Lib.hid (RP.out.below hk)
          have RQ := Lib.hid hQ
          have hb := below2 hb hk hb.size
          clear hk hQ
          go_wp2_with fail
          refine (xselect HT.out HAB.out HS1.out (HE.out _ hb)).mono ?_
          rintro e v43 ⟨⟨A7, c7, rfl, hS⟩, hk⟩
          rw [HC.out.1] at hS ⊢
          rw [HC.out.2]
          have HT := Lib.hid (HT.out.below hk)
          have HAB := Lib.hid (HAB.out.below hk)
          have HBA := Lib.hid (HBA.out.below hk)
          have RP := Lib.hid (RP.out.below hk)
          have RQ := Lib.hid (RQ.out.below hk)
          have RS := Lib.hid hS
          have hb := below2 hb hk hb.size
          clear hk hS
          go_wp2_with fail
          refine (xselect HT.out HBA.out HS2.out (HE.out _ hb)).mono ?_
          rintro e v44 ⟨⟨A8, c8, rfl, hT⟩, hk⟩
          rw [HD.out.1] at hT ⊢
          rw [HD.out.2]
          have HT := Lib.hid (HT.out.below hk)
          have HAB := Lib.hid (HAB.out.below hk)
          have HBA := Lib.hid (HBA.out.below hk)
          have RP := Lib.hid (RP.out.below hk)
          have RQ := Lib.hid (RQ.out.below hk)
          have RS := Lib.hid (RS.out.below hk)
          have RT := Lib.hid hT
          have hb := below2 hb hk hb.size
          clear hk hT
          have hmk := make_one
          go_wp2_with fail
          refine (xodd HT.out (fun W hW => HE.out W (below2 hb hW hb.size))).mono ?_
          rintro e v45 ⟨⟨A0, c0, rfl, _⟩, hk⟩
          clear hmk
          have HT := Lib.hid (HT.out.below hk)
          have HAB := Lib.hid (HAB.out.below hk)
          have HBA := Lib.hid (HBA.out.below hk)
          have RP := Lib.hid (RP.out.below hk)
          have RQ := Lib.hid (RQ.out.below hk)
          have RS := Lib.hid (RS.out.below hk)
          have RT := Lib.hid (RT.out.below hk)
          have hb := below2 hb hk hb.size
          clear hk
          rcases HCase.out with ⟨rfl, rfl, rfl, rfl, hand, rfl⟩ | ⟨rfl, rfl, rfl, rfl⟩ | ⟨rfl, rfl, rfl, rfl⟩ | ⟨rfl, rfl, rfl, rfl⟩
          case inl =>
            have HN := Lib.hid hand
            clear hand
            go_wp2_with fail
            refine (rselect HT.out HAB.out HS1.out).mono ?_
            rintro e v46 ⟨⟨A9, c9, rfl, hW⟩, hk⟩
            rw [HC.out.1] at hW ⊢
            rw [HC.out.2]
            have HT := Lib.hid (HT.out.below hk)
            have HAB := Lib.hid (HAB.out.below hk)
            have HBA := Lib.hid (HBA.out.below hk)
            have RP := Lib.hid (RP.out.below hk)
            have RQ := Lib.hid (RQ.out.below hk)
            have RS := Lib.hid (RS.out.below hk)
            have RT := Lib.hid (RT.out.below hk)
            have RW := Lib.hid hW
            have hb := below2 hb hk hb.size
            clear hk hW
            go_wp2_with fail
            refine (andI HN.out (by omega) (by omega) RP.out RQ.out).mono ?_
            rintro e v47 ⟨⟨A10, c10, rfl, hV⟩, hk⟩
            have HT := Lib.hid (HT.out.below hk)
            have HAB := Lib.hid (HAB.out.below hk)
            have HBA := Lib.hid (HBA.out.below hk)
            have RP := Lib.hid (RP.out.below hk)
            have RQ := Lib.hid (RQ.out.below hk)
            have RS := Lib.hid (RS.out.below hk)
            have RT := Lib.hid (RT.out.below hk)
            have RW := Lib.hid (RW.out.below hk)
            have RV := Lib.hid hV
            have hb := below2 hb hk hb.size
            clear hk hV
            go_wp2_with fail
            refine (sameI (b := true) (decide_eq_true rfl) (by omega) (by omega) RS.out RV.out).mono ?_
            rintro e v48 ⟨rfl, hk⟩
            have HT := Lib.hid (HT.out.below hk)
            have HAB := Lib.hid (HAB.out.below hk)
            have HBA := Lib.hid (HBA.out.below hk)
            have RP := Lib.hid (RP.out.below hk)
            have RQ := Lib.hid (RQ.out.below hk)
            have RS := Lib.hid (RS.out.below hk)
            have RT := Lib.hid (RT.out.below hk)
            have RW := Lib.hid (RW.out.below hk)
            have RV := Lib.hid (RV.out.below hk)
            have hb := below2 hb hk hb.size
            clear hk
            go_wp2_with fail
            refine (sameI (b := true) (decide_eq_true rfl) (by omega) (by omega) RS.out RT.out).mono ?_
            rintro e v49 ⟨rfl, hk⟩
            have HT := Lib.hid (HT.out.below hk)
            have HAB := Lib.hid (HAB.out.below hk)
            have HBA := Lib.hid (HBA.out.below hk)
            have RP := Lib.hid (RP.out.below hk)
            have RQ := Lib.hid (RQ.out.below hk)
            have RS := Lib.hid (RS.out.below hk)
            have RT := Lib.hid (RT.out.below hk)
            have RW := Lib.hid (RW.out.below hk)
            have RV := Lib.hid (RV.out.below hk)
            have hb := below2 hb hk hb.size
            clear hk
            go_wp2_with fail
            refine (sameI (b := true) (decide_eq_true rfl) (by omega) (by omega) RS.out RW.out).mono ?_
            rintro e v50 ⟨rfl, hk⟩
            have HT := Lib.hid (HT.out.below hk)
            have HAB := Lib.hid (HAB.out.below hk)
            have HBA := Lib.hid (HBA.out.below hk)
            have RP := Lib.hid (RP.out.below hk)
            have RQ := Lib.hid (RQ.out.below hk)
            have RS := Lib.hid (RS.out.below hk)
            have RT := Lib.hid (RT.out.below hk)
            have RW := Lib.hid (RW.out.below hk)
            have RV := Lib.hid (RV.out.below hk)
            have hb := below2 hb hk hb.size
            clear hk
            go_wp2_with fail
            go_ret
            exact ⟨rfl, hb⟩
          all_goals
            go_wp2_with fail
            refine (rselect HT.out HAB.out HS1.out).mono ?_
            rintro e v51 ⟨⟨A9, c9, rfl, hW⟩, hk⟩
            rw [HC.out.2]
            have hb := below2 hb hk hb.size
            go_wp2_with fail
            go_ret
            exact ⟨rfl, hb⟩
end Go.Proofs.YtdbifbgjbfnfmaaDoor
