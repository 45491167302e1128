/-
  Layer 7 (index): the law IndexAdds returns true.
-/
import Derived.Test.YtdbifbgjbfnfmaaDoorM18
namespace Go.Proofs.YtdbifbgjbfnfmaaDoor
open Go.RowKit Go.Deep
attribute [local go_sem] str_size str_append str_toList str_get str_extract
set_option linter.unusedVariables false
set_option linter.unusedSimpArgs false
theorem lls_one {w : World} {A : Option Addr} {cap : Nat} {l : List Lab} (hA : LAt w A l.length l) (hl : l.length ≤ maxLen) : LLAt (w.alloc (.cells #[.slice A l.length cap] 23)) (some ⟨w.heap.size, 0, none⟩) 1 1 [l] := by
  have hb : Below w.heap.size w (w.alloc (.cells #[.slice A l.length cap] 23)) := (Below.refl _ _).alloc (Nat.le_refl _) _
  have h := blk_new w (.cells #[.slice A l.length cap] 23)
  refine ⟨rfl, Nat.le_refl _, fun i hi => ?_⟩
  match i, hi with
  | 0, _ => exact ⟨_, A, cap, rfl, lt_of_block h, blk_cell h 0, hA.below hb, hl⟩
theorem okL_nil : okL [] = true := by rfl
theorem addE_not (X : Ix) : addE X [] ≠ 40 := by unfold addE; rw [if_pos okL_nil]; split <;> (try split) <;> decide
theorem addI_pos (X : Ix) (l : List Lab) : 0 ≤ addI X l := by unfold addI; split <;> (try split) <;> (try split) <;> omega
theorem addX_pos (X : Ix) : 0 < (addX X []).length := by
  unfold addX
  split
  · simp
  · rename_i h
    by_cases hm : [] ∈ X
    · exact List.length_pos_of_mem hm
    · by_cases hl : X.length < 200
      · exact absurd ⟨okL_nil, hm, hl⟩ h
      · omega
set_option maxRecDepth 100000 in
set_option maxHeartbeats 1000000 in
theorem law_IndexAdds (a0 : Option Addr) (len0 cap0 : Nat) (z0 : List (List Lab)) (a1 : Option Addr) (len1 cap1 : Nat) (z1 : List Lab) (w : World) (hl0 : len0 ≤ maxLen) (w0 : LLAt w a0 len0 cap0 z0) (hl1 : len1 ≤ maxLen) (w1 : LAt w a1 len1 z1) (hT : Lib.Utf8Tabs 1 2 w) (hS : w.ShapedOpen Tryd.prog) :
    Calls Tryd.prog 3 #[.slice a0 len0 cap0, .slice a1 len1 cap1] w fun e w' => e = .returned (.bool true) ∧ Below w.heap.size w w' := by
  have hle0 := w0.1
  subst hle0
  unfold maxLen at hl0
  have hle1 := w1.1
  subst hle1
  unfold maxLen at hl1
  have HE := Lib.hid (fun W (h : Below w.heap.size w W) => (Env.mk hT (maxLen_cell7 hS)).below h)
  have Z0 := Lib.hid w0
  have Z1 := Lib.hid w1
  clear hT hS w0 w1
  go_enter Tryd.func3, Tryd.ntmps3
  have hb := Below.refl w.heap.size w
  have hk : Below w.heap.size w (w.alloc (.cells #[.slice a1 z1.length cap1] 23)) := (Below.refl _ _).alloc (Nat.le_refl _) _
  have ZL := Lib.hid (lls_one (cap := cap1) Z1.out (by unfold maxLen; omega))
  obtain ⟨wl, hwl⟩ : ∃ wl, w.alloc (.cells #[.slice a1 z1.length cap1] 23) = wl := ⟨_, rfl⟩
  rw [hwl] at hk ZL
  have hb := hk
  go_wp2_with fail
  refine (heavy7_c _ _ _ z0 _ (by omega) (Z0.out.below hb)).mono ?_
  rintro e v1 ⟨⟨b, rfl, hs⟩, hk⟩
  have ZL := Lib.hid (ZL.out.below hk)
  have hb := below2 hb hk hb.size
  clear hk
  cases b
  case true =>
    go_wp2_with fail
    go_ret
    exact ⟨rfl, hb⟩
  have hs := hs rfl
  have M0 := Lib.hid hs
  clear hs
  go_wp2_with fail
  refine (heavy7_c _ _ _ [z1] _ (by simp) ZL.out).mono ?_
  rintro e v2 ⟨⟨b, rfl, hs⟩, hk⟩
  have ZL := Lib.hid (ZL.out.below hk)
  have hb := below2 hb hk hb.size
  clear hk
  cases b
  case true =>
    go_wp2_with fail
    go_ret
    exact ⟨rfl, hb⟩
  have hs := hs rfl
  have M1 : Hid (SmallL z1) := hs.2 z1 (by simp)
  clear hs ZL
  go_wp2_with fail
  refine (made_c _ _ _ z0 _ (Z0.out.below hb) M0.out (HE.out _ hb)).mono ?_
  rintro e v3 ⟨⟨q, p, rfl, hT2⟩, hk⟩
  have HT := Lib.hid (hT2.mono hb.size)
  clear hT2
  have hb := below2 hb hk hb.size
  clear hk
  obtain ⟨X, hX⟩ : ∃ X, addAll [] z0 = X := ⟨_, rfl⟩
  rw [hX] at HT
  have HX := Lib.hid hX
  clear hX
  have hX2 := HT.out.good.1.few
  have HG := Lib.hid HT.out.good.1
  go_wp2_with fail
  go_loopw [9] (fun c wr => ∃ id : Int, -1 ≤ id ∧ id ≤ X.length + 1 ∧ c = .int .i64 id ∧ Hid (Two7 w.heap.size q p X X wr) ∧ Below w.heap.size w wr) (fun c _ => ((X.length : Int) + 1 - intOf c).toNat)
  case atStart => exact ⟨-1, by omega, by omega, rfl, HT.out, hb⟩
  case round =>
    clear HT hb hk
    obtain ⟨id, hi1, hi2, rfl, HT, hb⟩ := hrel
    go_wp2_with fail
    refine (rlen HT.out).mono ?_
    rintro e v4 ⟨rfl, hk⟩
    have HT := Lib.hid (HT.out.below hk)
    have hb := below2 hb hk hb.size
    clear hk
    by_cases hid : id ≤ (X.length : Int)
    case pos =>
      have tid : decide (id ≤ (X.length : Int)) = true := by simpa using hid
      have hok := labelsX_mem HG.out id
      have hsm := small_ok hok
      obtain ⟨l, hl⟩ : ∃ l, labelsX X id = l := ⟨_, rfl⟩
      rw [hl] at hok hsm
      have HL := Lib.hid hl
      have HSM := Lib.hid hsm
      have hl2 : l.length ≤ 100000 := by have := hsm.1; omega
      clear hl hok hsm
      go_wp2_with fail
      refine (xlabels (id := id) HT.out (by omega) (by omega)).mono ?_
      rintro e v5 ⟨⟨A1, c1, rfl, hP⟩, hk⟩
      rw [HL.out] at hP ⊢
      have HT := Lib.hid (HT.out.below hk)
      have RP := Lib.hid hP
      have hb := below2 hb hk hb.size
      clear hk hP
      go_wp2_with fail
      refine (rlabels (id := id) HT.out (by omega) (by omega)).mono ?_
      rintro e v6 ⟨⟨A2, c2, rfl, hQ⟩, hk⟩
      rw [HL.out] at hQ ⊢
      have HT := Lib.hid (HT.out.below hk)
      have RP := Lib.hid (RP.out.below hk)
      have RQ := Lib.hid hQ
      have hb := below2 hb hk hb.size
      clear hk hQ
      go_wp2_with fail
      refine (sameL (b := true) (decide_eq_true rfl) hl2 hl2 RP.out RQ.out).mono ?_
      rintro e v7 ⟨rfl, hk⟩
      have HT := Lib.hid (HT.out.below hk)
      have RP := Lib.hid (RP.out.below hk)
      have RQ := Lib.hid (RQ.out.below hk)
      have hb := below2 hb hk hb.size
      clear hk
      by_cases hp0 : 0 ≤ id
      case neg =>
        have tp : decide (0 ≤ id) = false := by simpa using hp0
        go_wp2_with fail
        go_roundw
        case rel => exact ⟨id + 1, by omega, by omega, by go_num, HT.out, hb⟩
        case measure => simp [intOf]; omega
      have tp : decide (0 ≤ id) = true := by simpa using hp0
      go_wp2_with fail
      refine (rlen HT.out).mono ?_
      rintro e v8 ⟨rfl, hk⟩
      have HT := Lib.hid (HT.out.below hk)
      have RP := Lib.hid (RP.out.below hk)
      have RQ := Lib.hid (RQ.out.below hk)
      have hb := below2 hb hk hb.size
      clear hk
      by_cases hlt : id < (X.length : Int)
      case neg =>
        have tl : decide (id < (X.length : Int)) = false := by simpa using hlt
        go_wp2_with fail
        go_roundw
        case rel => exact ⟨id + 1, by omega, by omega, by go_num, HT.out, hb⟩
        case measure => simp [intOf]; omega
      have tl : decide (id < (X.length : Int)) = true := by simpa using hlt
      have hE3 : idF X l = id ∧ isF X l = true ∧ addX X l = X ∧ addI X l = id ∧ addE X l = 0 := by
        obtain ⟨i, rfl⟩ : ∃ i : Nat, id = i := ⟨id.toNat, by omega⟩
        have hi : i < X.length := by omega
        have e := labelsX_in hi
        rw [HL.out] at e
        subst e
        have hf := findX_good HG.out hi
        have hm : X[i] ∈ X := List.getElem_mem hi
        have ho := HG.out.ok _ hm
        refine ⟨?_, decide_eq_true hm, addX_mem hm, ?_, addE_mem hm ho⟩
        · unfold idF; rw [hf]
        · unfold addI; rw [if_pos ho, hf]
      have HE3 := Lib.hid hE3
      clear hE3 hlt hp0
      go_wp2_with fail
      refine (rlabels (id := id) HT.out (by omega) (by omega)).mono ?_
      rintro e v9 ⟨⟨A3, c3, rfl, hG⟩, hk⟩
      rw [HL.out] at hG ⊢
      have HT := Lib.hid (HT.out.below hk)
      have RP := Lib.hid (RP.out.below hk)
      have RQ := Lib.hid (RQ.out.below hk)
      have RG := Lib.hid hG
      have hb := below2 hb hk hb.size
      clear hk hG
      go_wp2_with fail
      refine (xfind HT.out RG.out HSM.out (HE.out _ hb)).mono ?_
      rintro e v10 ⟨rfl, hk⟩
      have HT := Lib.hid (HT.out.below hk)
      have RP := Lib.hid (RP.out.below hk)
      have RQ := Lib.hid (RQ.out.below hk)
      have RG := Lib.hid (RG.out.below hk)
      have hb := below2 hb hk hb.size
      clear hk
      rw [HE3.out.1, HE3.out.2.1]
      go_wp2_with fail
      refine (rlabels (id := id) HT.out (by omega) (by omega)).mono ?_
      rintro e v11 ⟨⟨A4, c4, rfl, hU⟩, hk⟩
      rw [HL.out] at hU ⊢
      have HT := Lib.hid (HT.out.below hk)
      have RP := Lib.hid (RP.out.below hk)
      have RQ := Lib.hid (RQ.out.below hk)
      have RG := Lib.hid (RG.out.below hk)
      have RU := Lib.hid hU
      have hb := below2 hb hk hb.size
      clear hk hU
      go_wp2_with fail
      refine (add_two HT.out hb.size RU.out HSM.out (HE.out _ hb)).mono ?_
      rintro e v20 ⟨rfl, hT3, hk⟩
      rw [HE3.out.2.2.2.1, HE3.out.2.2.2.2]
      rw [HE3.out.2.2.1] at hT3
      have HT := Lib.hid hT3
      have hb := hb.trans hk
      have tI : (id == id) = true := by simp
      clear hT3 hk RP RQ RG RU
      go_wp2_with fail
      go_roundw
      case rel => exact ⟨id + 1, by omega, by omega, by go_num, HT.out, hb⟩
      case measure => simp [intOf]; omega
    case neg =>
      have tid : decide (id ≤ (X.length : Int)) = false := by simpa using hid
      have hl2 : z1.length ≤ 100000 := by have := M1.out.1; omega
      go_wp2_with fail
      refine (xfind HT.out (Z1.out.below hb) M1.out (HE.out _ hb)).mono ?_
      rintro e v12 ⟨rfl, hk⟩
      have HT := Lib.hid (HT.out.below hk)
      have hb := below2 hb hk hb.size
      clear hk
      obtain ⟨a, ha⟩ : ∃ a, idF X z1 = a := ⟨_, rfl⟩
      obtain ⟨b, hbb⟩ : ∃ b, isF X z1 = b := ⟨_, rfl⟩
      rw [ha, hbb]
      have HAB := Lib.hid (And.intro ha hbb)
      clear ha hbb
      go_wp2_with fail
      refine (rfind HT.out (Z1.out.below hb) M1.out).mono ?_
      rintro e v13 ⟨rfl, hk⟩
      have HT := Lib.hid (HT.out.below hk)
      have hb := below2 hb hk hb.size
      clear hk
      rw [HAB.out.1, HAB.out.2]
      have h40 := addE_not X
      have h0 := addI_pos X []
      have hps := addX_pos X
      have hge := len_addX X []
      obtain ⟨c, hc⟩ : ∃ c, addI X [] = c := ⟨_, rfl⟩
      obtain ⟨d, hd⟩ : ∃ c, addE X [] = c := ⟨_, rfl⟩
      obtain ⟨Y, hY⟩ : ∃ c, addX X [] = c := ⟨_, rfl⟩
      rw [hc] at h0
      rw [hd] at h40
      rw [hY] at hps hge
      have HCD := Lib.hid (And.intro hc (And.intro hd hY))
      have t1 : (a == a) = true := by simp
      have t2 : (b == b) = true := by simp
      have t3 : decide ((X.length : Int) ≤ (Y.length : Int)) = true := by simpa using by omega
      have t4 : decide (0 ≤ c) = true := by simpa using h0
      have t5 : (d == 40) = false := by rw [beq_eq_false_iff_ne]; exact h40
      have t6 : decide (0 < (Y.length : Int)) = true := by simpa using by omega
      have t7 : (d != 40) = true := by simp [h40]
      clear hc hd hY h0
      go_wp2_with fail
      refine (add_two (A := none) (cap := 0) (l := []) HT.out hb.size (LAt.nil _ _) (small_ok (.inr rfl)) (HE.out _ hb)).mono ?_
      rintro e v21 ⟨rfl, hT3, hk⟩
      rw [HCD.out.1, HCD.out.2.1]
      rw [HCD.out.2.2] at hT3
      have HT := Lib.hid hT3
      have hb := hb.trans hk
      clear hT3 hk
      go_wp2_with fail
      refine (xlen HT.out).mono ?_
      rintro e v22 ⟨rfl, hk⟩
      have HT := Lib.hid (HT.out.below hk)
      have hb := below2 hb hk hb.size
      clear hk
      go_wp2_with fail
      refine (rlen HT.out).mono ?_
      rintro e v23 ⟨rfl, hk⟩
      have HT := Lib.hid (HT.out.below hk)
      have hb := below2 hb hk hb.size
      clear hk
      go_wp2_with fail
      refine (xlen HT.out).mono ?_
      rintro e v24 ⟨rfl, hk⟩
      have HT := Lib.hid (HT.out.below hk)
      have hb := below2 hb hk hb.size
      clear hk
      go_wp2_with fail
      go_ret
      exact ⟨rfl, hb⟩
end Go.Proofs.YtdbifbgjbfnfmaaDoor
