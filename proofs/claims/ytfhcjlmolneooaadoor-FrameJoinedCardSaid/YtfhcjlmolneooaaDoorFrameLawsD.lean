/-
  Layer 8 (frame): the law FrameJoined returns true.
-/
import Derived.Test.YtfhcjlmolneooaaDoorFrameLawsC
namespace Go.Proofs.YtfhcjlmolneooaaDoor
open Go.RowKit Go.Deep
attribute [local go_sem] str_size str_append str_toList str_get str_extract
set_option linter.unusedVariables false
set_option linter.unusedSimpArgs false
set_option maxRecDepth 100000 in
set_option maxHeartbeats 2000000 in
theorem law_FrameJoined (a0 : Option Addr) (len0 cap0 : Nat) (z0 : List Byts) (a1 : ByteArray) (w : World) (hl0 : len0 ≤ maxLen) (w0 : TsAt w a0 len0 cap0 z0) (w1 : a1.size ≤ maxLen) (hT : Halves w) :
    Calls Tryd.prog 7 #[.slice a0 len0 cap0, .string a1] w fun e w' => e = .returned (.bool true) ∧ Below w.heap.size w w' := by
  unfold maxLen at hl0
  obtain ⟨s, rfl⟩ := str_of a1
  rw [str_size] at w1
  unfold maxLen at w1
  have hle := w0.1
  subst hle
  have CL := Lib.hid (long_c a0 z0.length cap0 z0 w (by omega) w0)
  cases hB : longB z0 with
  | true =>
    rw [hB] at CL
    clear hB
    go_enter Tryd.func7, Tryd.ntmps7
    go_wp2_with (go_at_call 16; refine CL.out.mono ?_; rintro e v1 ⟨rfl, rfl⟩; dsimp only)
    go_ret
    exact ⟨rfl, Below.refl _ _⟩
  | false =>
    have hsm := longB_small hB
    rw [hB] at CL
    by_cases hbig : (2048 : Int) < s.length
    · clear hB
      go_enter Tryd.func7, Tryd.ntmps7
      go_wp2_with (go_at_call 16; refine CL.out.mono ?_; rintro e v1 ⟨rfl, rfl⟩; dsimp only)
      go_ret
      exact ⟨rfl, Below.refl _ _⟩
    have hsh : ∀ t ∈ z0, Short t := fun t ht => by have := totB_mem z0 t ht; show _ < _; omega
    have hrow := rowF_len z0 hsh
    obtain ⟨Lb, r, hSb, hrs⟩ := scans_all s.length s (Nat.le_refl _)
    have hSa := hSb.joined hsh
    have hLb := (scans_len hSb).2
    obtain ⟨m, hm⟩ : ∃ m, s.length - r.length = m := ⟨_, rfl⟩
    have hm2 : m ≤ 2048 := by omega
    obtain ⟨S, hS⟩ : ∃ S, rowF z0 = S := ⟨_, rfl⟩
    have hSl : S.length ≤ 30000 := by rw [← hS]; omega
    have hcap := w0.2.1
    obtain ⟨N, hN⟩ : ∃ N, z0.length = N := ⟨_, rfl⟩
    have HZ : Hid (z0.length = N) := hN
    rw [hN] at w0
    have HW := Lib.hid w0
    have HS := Lib.hid hS
    have HSM := Lib.hid hsm
    have hN2 : N ≤ 2048 := by omega
    rw [hS] at hSa
    have hma : (S ++ s).length - r.length = S.length + m := by rw [List.length_append]; omega
    have CA := Lib.hid (fun W (hW : Below w.heap.size w W) => scan_is hSa hma W (by rw [List.length_append]; omega) (hT.below hW))
    have CB := Lib.hid (fun W (hW : Below w.heap.size w W) => scan_is hSb hm W (by omega) (hT.below hW))
    have CC := Lib.hid (fun W => refScan_is hSb hm W (by omega))
    have CE := Lib.hid (fun W (hW : Below w.heap.size w W) => frame_c [] W (by simp) (hT.below hW))
    obtain ⟨E, hE⟩ : ∃ E, frameL [] = E := ⟨_, rfl⟩
    have hE3 := empty3
    rw [hE] at CE hE3
    obtain ⟨La, hLa⟩ : ∃ La, z0 ++ Lb = La := ⟨_, rfl⟩
    rw [hLa] at CA
    have HLA := Lib.hid hLa
    have HLaL : Hid (La.length ≤ 5000) := by show _ ≤ _; rw [← hLa, List.length_append]; omega
    rw [hN] at CL hcap ⊢
    clear hS hrow hSa hSb hE hsm hsh w0 hN hl0 hB hm hma hLa hrs
    go_enter Tryd.func7, Tryd.ntmps7
    go_wp2_with (go_at_call 16; refine CL.out.mono ?_; rintro e v1 ⟨rfl, rfl⟩; dsimp only)
    go_loopw [5, 6] (fun s c wr => ∃ (i : Nat) (S1 : Byts), i ≤ N ∧ s = .string (str S1) ∧ c = .int .i64 i ∧ Hid (rowF (z0.take i) = S1 ∧ S1.length ≤ 30000) ∧ Below w.heap.size w wr) (fun _ c _ => N - (intOf c).toNat)
    case atStart => exact ⟨0, [], Nat.zero_le _, rfl, rfl, ⟨by simp [rowF], by simp⟩, Below.refl _ w⟩
    case round =>
      obtain ⟨i, S1, hi, rfl, rfl, HS1, hb⟩ := hrel
      have hbs := hb.size
      by_cases hlt : i < N
      · have hltz : i < z0.length := by have := HZ.out; omega
        obtain ⟨r, ad, rfl, h2, h3⟩ := (HW.out.below hb).2.2 i hltz
        have hst := rowF_take z0 i hltz
        rw [HS1.out.1] at hst
        have hnl : (rowF (z0.take (i + 1))).length ≤ 30000 := by have := rowF_take_le z0 (i + 1); rw [HS.out] at this; omega
        have htm := totB_mem z0 _ (List.getElem_mem hltz)
        obtain ⟨t, ht⟩ : ∃ t, z0[i]'hltz = t := ⟨_, rfl⟩
        rw [ht] at r h3 hst htm
        have hts : t.length ≤ 2048 := by have := HSM.out; omega
        have CF := Lib.hid (frame_c t wr (by omega) (hT.below hb))
        obtain ⟨F, hF⟩ : ∃ F, frameL t = F := ⟨_, rfl⟩
        rw [hF] at CF hst
        have hsl : (S1 ++ F).length ≤ 30000 := by rw [← hst]; exact hnl
        have hsl2 : S1.length + F.length ≤ 30000 := by rw [← List.length_append]; exact hsl
        have HST : Hid (rowF (z0.take (i + 1)) = S1 ++ F ∧ (S1 ++ F).length ≤ 30000) := ⟨hst, hsl⟩
        clear hst hnl htm ht hF hsl r
        go_wp2_with (first
          | (go_at_call 11; refine CF.out.mono ?_; rintro e v2 ⟨rfl, hb2⟩; have hb3 := below2 hb hb2 hbs; have hb3s := hb3.size; dsimp only))
        go_roundw
        case rel => exact ⟨i + 1, S1 ++ F, by omega, rfl, by go_num, HST.out, hb3⟩
        case measure => simp [intOf]; omega
      · obtain rfl : i = N := by omega
        have e1 : S1 = S := by rw [← HS1.out.1, ← HS.out]; congr 1; exact List.take_of_length_le (by have := HZ.out; omega)
        subst e1
        clear hlt
        have hap : ¬ 9223372036854775807 < S1.length + s.length := by omega
        go_wp2_with fail
        refine (CA.out _ hb).mono ?_
        rintro e v2 ⟨⟨A2, c2, rfl, hN2⟩, hb2⟩
        have hb3 := below2 hb hb2 hbs
        have H2 := Lib.hid hN2.is
        clear hN2
        have hLbL : Lb.length ≤ 3000 := by omega
        go_wp2_with (first
          | (go_at_call 13; refine (CB.out _ hb3).mono ?_; rintro e v3 ⟨⟨A3, c3, rfl, hN3⟩, hb4⟩; have hb5 := below2 hb3 hb4 hb3.size; have hb5s := hb5.size; have H3 := Lib.hid (And.intro (H2.out.below hb4) hN3.is); clear hN3 H2; dsimp only)
          | (at_builtin; refine app_txts rfl (.tmp 47) (.tmp 48) rfl rfl (NewT.empty v3 v3.heap.size (Nat.le_refl _)) a0 i cap0 z0 rfl (HW.out.below (hb5.alloc hb5s _)) (by have := HZ.out; simp; omega) (by simp) ?c1))
        case c1 =>
          intro A6 cap6 w6 M1 HM1 hN6 hb6
          have hb7 : Below v3.heap.size v3 w6 := ((Below.refl _ v3).alloc (Nat.le_refl _) _).trans hb6
          have H4 := Lib.hid (And.intro (H3.out.1.below hb7) (H3.out.2.below hb7))
          have hM1 : M1.length ≤ 3000 := by have := HZ.out; rw [HM1.out]; simp; omega
          have hb8 := below2 hb5 hb7 hb5s
          have HN6 := Lib.hid hN6
          have hv6 : v3.heap.size ≤ w6.heap.size := hb7.size
          clear hN6 hb6
          go_wp2_with (first
            | (at_builtin; refine app_txts rfl (.tmp 50) (.tmp 51) rfl rfl HN6.out A3 Lb.length c3 Lb rfl H4.out.2 (by omega) hv6 ?c2))
          case c2 =>
            intro A7 cap7 w7 M2 HM2 hN7 hb9
            have e : M2 = La := by rw [HM2.out, HM1.out]; exact HLA.out
            subst e
            have hb10 : Below v3.heap.size v3 w7 := hb7.trans hb9
            have H5 := Lib.hid (And.intro (H3.out.1.below hb10) (And.intro (H3.out.2.below hb10) hN7.is))
            have hb11 := below2 hb5 hb10 hb5s
            have hLL : M2.length ≤ 9223372036854775807 := by have := HLaL.out; omega
            clear hN7 hb9 HN6 hv6
            go_wp2_with (first
              | (go_at_call 14; refine (CC.out _).mono ?_; rintro e v8 ⟨⟨A8, c8, rfl, hN8⟩, hb12⟩; have hb13 := below2 hb11 hb12 hb11.size; have H6 := Lib.hid (And.intro (H5.out.1.below hb12) (And.intro (H5.out.2.1.below hb12) (And.intro (H5.out.2.2.below hb12) hN8.is))); clear hN8; dsimp only)
              | (go_at_call_of 15 (Value.slice A2 M2.length c2); refine (tsame_yes hLL H6.out.1 H6.out.2.2.1).mono ?_; rintro e v9 ⟨rfl, hb14⟩; have hb15 := below2 hb13 hb14 hb13.size; have H7 := Lib.hid (And.intro (H6.out.2.1.below hb14) (H6.out.2.2.2.below hb14)); dsimp only)
              | (go_at_call 15; refine (tsame_yes (by omega) H7.out.1 H7.out.2).mono ?_; rintro e v10 ⟨rfl, hb16⟩; have hb17 := below2 hb15 hb16 hb15.size; dsimp only)
              | (go_at_call 11; refine (CE.out _ hb17).mono ?_; rintro e v11 ⟨rfl, hb18⟩; have hb19 := below2 hb17 hb18 hb17.size; dsimp only))
            go_ret
            exact ⟨by simp [go_sem], hb19⟩
end Go.Proofs.YtfhcjlmolneooaaDoor
