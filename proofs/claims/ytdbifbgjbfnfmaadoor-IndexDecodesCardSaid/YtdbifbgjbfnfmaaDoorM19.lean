/-
  Texts of the same seat, one behind the other (merged; each says at its head what it is).
-/
import Derived.Test.YtdbifbgjbfnfmaaDoorM05
import Derived.Test.YtdbifbgjbfnfmaaDoorM18
/-
  Layer 7 (index): the document's Decode.
-/
namespace Go.Proofs.YtdbifbgjbfnfmaaDoor
open Go.RowKit Go.Deep
attribute [local go_sem] str_size str_append str_toList str_get str_extract
set_option linter.unusedVariables false
set_option linter.unusedSimpArgs false
/-- What Decode answers: none, or an index of its own. -/
def DecodedR (o : Option Ix) (B : Nat) (e : Ending) (w' : World) : Prop := match o with
  | none => e = .returned (.tuple #[.pointer none, .int .i64 11])
  | some X => ∃ F p, e = .returned (.tuple #[.pointer (some ⟨p, 0, none⟩), .int .i64 0]) ∧ RefX F p X w' ∧ ∀ k ∈ F, B ≤ k
set_option maxRecDepth 100000 in
set_option maxHeartbeats 2000000 in
theorem refDecode_c (s : Txt) (w : World) (hs : s.length ≤ 4096) :
    Calls Tryd.prog 28 #[.string (str s)] w fun e w' => DecodedR (decX s) w.heap.size e w' ∧ Below w.heap.size w w' := by
  obtain ⟨v, nx, er, hu⟩ : ∃ v nx er, getU s 0 = (v, nx, er) := ⟨_, _, _, rfl⟩
  have hr := getU_range hu
  have CU := Lib.hid (fun W => refGetUint_c s 0 v nx er W (by omega) (by omega) (by omega) hu)
  obtain ⟨O, hO⟩ : ∃ O, decX s = O := ⟨_, rfl⟩
  rw [hO]
  have HO := Lib.hid hO
  clear hO
  by_cases her : er = 0
  · subst her
    by_cases hv : 200 < v
    · have e : O = none := by rw [← HO.out]; exact read_head_bad hu (.inr hv)
      have HE := Lib.hid e
      have t1 : decide (200 < v) = true := by simpa using hv
      clear e hv hr hu
      go_enter Tryd.func28, Tryd.ntmps28
      go_wp2_with fail
      refine (CU.out _).mono ?_
      rintro e w1 ⟨rfl, hb1⟩
      go_wp2_with fail
      go_ret2
      exact ⟨by rw [HE.out]; rfl, hb1⟩
    · obtain ⟨n, k, rfl, rfl, hR⟩ := read_head hu hv
      have hn := hR.n200
      have HR := Lib.hid hR
      have t1 : decide (200 < (n : Int)) = false := by simpa using hv
      clear hv hr hu hR
      go_enter Tryd.func28, Tryd.ntmps28
      go_wp2_with fail
      refine (CU.out _).mono ?_
      rintro e w1 ⟨rfl, hb1⟩
      go_wp2_with fail
      refine (refNew_c w1).mono ?_
      rintro e w2 ⟨⟨rfl, hX⟩, hb2⟩
      obtain ⟨p, hp⟩ : ∃ p, w1.heap.size = p := ⟨_, rfl⟩
      have hpB : w.heap.size ≤ p := by rw [← hp]; exact hb1.size
      have hb2 := below2 hb1 hb2 hb1.size
      rw [hp] at hX ⊢
      have HX := Lib.hid hX
      clear hX
      go_wp2_with fail
      go_loopw [5, 8] (fun a c wr => ∃ (i k : Nat) (Y : Ix) (F : List Nat), i ≤ n ∧ c = .int .i64 i ∧ a = .int .i64 k ∧ Hid (RefX F p Y wr ∧ ∀ k ∈ F, w.heap.size ≤ k) ∧ Hid (Read s n k Y ∧ Y.length = i) ∧ Below w.heap.size w wr) (fun _ c _ => n - (intOf c).toNat)
      case atStart => exact ⟨0, k, [], [p], Nat.zero_le _, rfl, rfl, ⟨HX.out, fun k hk => by simp at hk; omega⟩, ⟨HR.out, rfl⟩, hb2⟩
      case round =>
        clear HX HR hb2 hb1 CU hp
        obtain ⟨i, k, Y, F, hi, rfl, rfl, HX, HR, hb⟩ := hrel
        have hbs := hb.size
        have hk4 : k ≤ 4096 := Nat.le_trans HR.out.1.le hs
        by_cases hlt : i < n
        · obtain ⟨t, nx, er, hg⟩ : ∃ v nx er, getT s k = (v, nx, er) := ⟨_, _, _, rfl⟩
          have CT := Lib.hid (fun W => refGetText_c s k t nx er W (by omega) (by omega) (by omega) hg)
          have hin : Y.length < n := by have := HR.out.2; omega
          by_cases her : er = 0
          · subst her
            obtain ⟨q, rfl, hq1, hq2, hq3⟩ := getT_at hg
            have htl : t.length ≤ 4096 := by
              have h1 := congrArg List.length hq3
              rw [List.length_append, List.length_take, tx, List.length_append] at h1
              omega
            have cp := fun W => refParse_c t W htl
            cases hP : parseL t with
            | none =>
              rw [hP] at cp
              have CP := Lib.hid cp
              have HE : Hid (O = none) := by show _ = _; rw [← HO.out]; exact HR.out.1.bad_labels hin hg hP
              clear cp hg hq1 hq2 hq3 htl hin hP
              go_wp2_with fail
              refine (CT.out _).mono ?_
              rintro e w3 ⟨rfl, hb3⟩
              have hb3 := below2 hb hb3 hbs
              go_wp2_with fail
              refine (CP.out _).mono ?_
              rintro e w4 ⟨hpd, hb4⟩
              have he : e = .returned (.tuple #[.slice none 0 0, .int .i64 11]) := hpd
              subst he
              have hb4 := below2 hb3 hb4 hb3.size
              go_wp2_with fail
              go_ret2
              exact ⟨by rw [HE.out]; rfl, hb4⟩
            | some l =>
              rw [hP] at cp
              have hpl := parseL_of hP
              have h32 := okL_32 hpl.1
              have h8 := okL_len hpl.1
              have CP := Lib.hid cp
              by_cases hm : l ∈ Y
              · have HE : Hid (O = none) := by show _ = _; rw [← HO.out]; exact HR.out.1.twice hin hg hP hm
                obtain ⟨j, hj⟩ : ∃ j, findX Y l = some j := by
                  cases hf : findX Y l with
                  | none => exact absurd hm (findX_none.1 hf)
                  | some i => exact ⟨i, rfl⟩
                have hj2 : j < Y.length := (findX_some.1 hj).elim fun h _ => h
                have eI : addI Y l = (j : Int) := by unfold addI; rw [if_pos hpl.1, hj]
                have hji : ((j : Int) == (i : Int)) = false := by rw [beq_eq_false_iff_ne]; have := HR.out.2; omega
                have CA := Lib.hid (fun A cap W hW (hA : LAt W A l.length l) => refAdd_c F p Y A l.length cap l W hW hA (by omega) (fun x hx => by have := h32 x hx; omega))
                rw [eI] at CA
                clear cp hg hq1 hq2 hq3 htl hin hP hpl h32 hm hj hj2 eI
                go_wp2_with fail
                refine (CT.out _).mono ?_
                rintro e w3 ⟨rfl, hb3⟩
                have HX3 := Lib.hid (HX.out.1.below hb3)
                have hb3 := below2 hb hb3 hbs
                go_wp2_with fail
                refine (CP.out _).mono ?_
                rintro e w4 ⟨hpd, hb4⟩
                obtain ⟨A4, c4, rfl, hA4, _⟩ := hpd
                have HX4 := Lib.hid (HX3.out.below hb4)
                have HA4 := Lib.hid hA4
                have hb4 := below2 hb3 hb4 hb3.size
                clear hA4
                go_wp2_with fail
                refine (CA.out _ _ _ HX4.out HA4.out).mono ?_
                rintro e w5 ⟨F', rfl, hX5, hK5, hF5⟩
                have hb5 : Below w.heap.size w w5 := hb4.trans (hK5.to hb4.size HX.out.2)
                clear hX5 hK5 hF5
                go_wp2_with fail
                go_ret2
                exact ⟨by rw [HE.out]; rfl, hb5⟩
              · obtain ⟨r, e, hR2⟩ := HR.out.1.next hin hg hP hm
                obtain rfl : q = r := by omega
                have hadd : addX Y l = Y ++ [l] := if_pos ⟨hpl.1, hm, by omega⟩
                have eI : addI Y l = (Y.length : Int) := by unfold addI; rw [if_pos hpl.1, findX_none.2 hm]; exact if_neg (by omega)
                have hYi : (Y.length : Int) = (i : Int) := by have := HR.out.2; omega
                have hji : ((i : Int) == (i : Int)) = true := by simp
                have CA := Lib.hid (fun A cap W hW (hA : LAt W A l.length l) => refAdd_c F p Y A l.length cap l W hW hA (by omega) (fun x hx => by have := h32 x hx; omega))
                rw [eI, hadd, hYi] at CA
                have HR2 : Hid (Read s n q (Y ++ [l]) ∧ (Y ++ [l]).length = i + 1) := ⟨hR2, by simp; omega⟩
                clear cp hg hq1 hq2 hq3 htl hin hP hpl h32 hm hR2 eI hadd e hYi
                go_wp2_with fail
                refine (CT.out _).mono ?_
                rintro e w3 ⟨rfl, hb3⟩
                have HX3 := Lib.hid (HX.out.1.below hb3)
                have hb3 := below2 hb hb3 hbs
                go_wp2_with fail
                refine (CP.out _).mono ?_
                rintro e w4 ⟨hpd, hb4⟩
                obtain ⟨A4, c4, rfl, hA4, _⟩ := hpd
                have HX4 := Lib.hid (HX3.out.below hb4)
                have HA4 := Lib.hid hA4
                have hb4 := below2 hb3 hb4 hb3.size
                clear hA4
                go_wp2_with fail
                refine (CA.out _ _ _ HX4.out HA4.out).mono ?_
                rintro e w5 ⟨F', rfl, hX5, hK5, hF5⟩
                have hb5 : Below w.heap.size w w5 := hb4.trans (hK5.to hb4.size HX.out.2)
                have HX5 : Hid (RefX F' p (Y ++ [l]) w5 ∧ ∀ k ∈ F', w.heap.size ≤ k) := ⟨hX5, fun k hk => (hF5 k hk).elim (HX.out.2 k) (fun h => Nat.le_trans hb4.size h)⟩
                clear hX5 hK5 hF5
                go_wp2_with fail
                go_roundw
                case rel => exact ⟨i + 1, q, Y ++ [l], F', by omega, by go_num, rfl, HX5.out, HR2.out, hb5⟩
                case measure => simp [intOf]; omega
          · have HE : Hid (O = none) := by show _ = _; rw [← HO.out]; exact HR.out.1.bad_text hin hg her
            have t2 : (er == 0) = false := by simpa using her
            clear hg hin
            go_wp2_with fail
            refine (CT.out _).mono ?_
            rintro e w3 ⟨rfl, hb3⟩
            have hb3 := below2 hb hb3 hbs
            go_wp2_with fail
            go_ret2
            exact ⟨by rw [HE.out]; rfl, hb3⟩
        · obtain rfl : i = n := by omega
          by_cases hk : k = s.length
          · subst hk
            have HE : Hid (O = some Y) := by show _ = _; rw [← HO.out]; exact HR.out.1.last HR.out.2
            go_wp2_with fail
            go_ret2
            exact ⟨by rw [HE.out]; exact ⟨F, p, rfl, HX.out.1, HX.out.2⟩, hb⟩
          · have HE : Hid (O = none) := by show _ = _; rw [← HO.out]; exact HR.out.1.last_bad HR.out.2 hk
            have t2 : ((k : Int) == (s.length : Int)) = false := by rw [beq_eq_false_iff_ne]; omega
            go_wp2_with fail
            go_ret2
            exact ⟨by rw [HE.out]; rfl, hb⟩
  · have e : O = none := by rw [← HO.out]; exact read_head_bad hu (.inl her)
    have HE := Lib.hid e
    have t2 : (er == 0) = false := by simpa using her
    clear e hr hu
    go_enter Tryd.func28, Tryd.ntmps28
    go_wp2_with fail
    refine (CU.out _).mono ?_
    rintro e w1 ⟨rfl, hb1⟩
    go_wp2_with fail
    go_ret2
    exact ⟨by rw [HE.out]; rfl, hb1⟩
end Go.Proofs.YtdbifbgjbfnfmaaDoor
