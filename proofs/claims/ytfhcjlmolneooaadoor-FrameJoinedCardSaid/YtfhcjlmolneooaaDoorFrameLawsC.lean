/-
  Layer 8 (frame): the laws FrameBack, FrameJoined return true.
-/
import Derived.Test.YtfhcjlmolneooaaDoorFrameLawsA
import Derived.Test.YtfhcjlmolneooaaDoorPostApp
namespace Go.Proofs.YtfhcjlmolneooaaDoor
open Go.RowKit Go.Deep
attribute [local go_sem] str_size str_append str_toList str_get str_extract
set_option linter.unusedVariables false
set_option linter.unusedSimpArgs false
/-- How many bytes texts have together. -/
def totB (l : List Byts) : Nat := (l.map List.length).sum
theorem totB_take (l : List Byts) (i : Nat) (h : i < l.length) : totB (l.take (i + 1)) = totB (l.take i) + l[i].length := by
  unfold totB; rw [List.take_succ_eq_append_getElem h, List.map_append, List.sum_append]; simp
theorem rowF_len (l : List Byts) (h : ∀ t ∈ l, Short t) : (rowF l).length ≤ totB l + 12 * l.length := by
  induction l with
  | nil => simp [rowF]
  | cons t l ih =>
    have h1 := ih (fun x hx => h x (by simp [hx]))
    have h2 := tx_len t (h t (by simp))
    rw [rowF_cons, List.length_append, frameL_len, List.length_cons]
    unfold totB at *
    simp only [List.map_cons, List.sum_cons]
    omega
theorem totB_mem (l : List Byts) : ∀ t ∈ l, t.length ≤ totB l := by
  induction l with
  | nil => intro t h; cases h
  | cons x l ih =>
    intro t h
    unfold totB at *
    simp only [List.map_cons, List.sum_cons]
    rcases List.mem_cons.1 h with rfl | h
    · omega
    · have := ih t h; omega
theorem rowF_take_le (l : List Byts) (i : Nat) : (rowF (l.take i)).length ≤ (rowF l).length := by
  have : rowF l = rowF (l.take i) ++ rowF (l.drop i) := by rw [← rowF_append, List.take_append_drop]
  rw [this, List.length_append]; omega
/-- What 'long' counts. -/
def longN : List Byts → Nat → Nat
  | [], n => n
  | x :: l, n => if n ≤ 2048 then longN l (n + min x.length 1048576) else n
def longB (l : List Byts) : Bool := decide (2048 < longN l (min l.length 1048576))
theorem longN_le (l : List Byts) : ∀ n, n ≤ longN l n := by
  induction l with
  | nil => intro n; exact Nat.le_refl n
  | cons x l ih =>
    intro n
    unfold longN
    split
    · have := ih (n + min x.length 1048576); omega
    · exact Nat.le_refl n
theorem longN_big (l : List Byts) (n : Nat) (h : ¬ n ≤ 2048) : longN l n = n := by
  cases l with
  | nil => rfl
  | cons x l => unfold longN; rw [if_neg h]
theorem longN_small (l : List Byts) : ∀ n, longN l n ≤ 2048 → n + totB l ≤ 2048 := by
  induction l with
  | nil => intro n h; simpa [totB, longN] using h
  | cons x l ih =>
    intro n h
    unfold longN at h
    split at h
    · have h1 := ih _ h
      have h2 := longN_le l (n + min x.length 1048576)
      unfold totB at *
      simp only [List.map_cons, List.sum_cons]
      omega
    · omega
theorem longB_small {l : List Byts} (h : longB l = false) : l.length + totB l ≤ 2048 := by
  have h1 : longN l (min l.length 1048576) ≤ 2048 := by simpa [longB] using h
  have h2 := longN_small l _ h1
  omega
theorem long_c (A : Option Addr) (len cap : Nat) (l : List Byts) (w : World) (hl : l.length ≤ 9223372036854775807) (hA : TsAt w A len cap l) :
    Calls Tryd.prog 16 #[.slice A len cap] w fun e w' => e = .returned (.bool (longB l)) ∧ w = w' := by
  have hle := hA.1
  subst hle
  obtain ⟨R, hR⟩ : ∃ R, longB l = R := ⟨_, rfl⟩
  obtain ⟨N, hN⟩ : ∃ N, longN l (min l.length 1048576) = N := ⟨_, rfl⟩
  have hRN : decide (2048 < N) = R := by rw [← hR, ← hN]; rfl
  rw [hR]
  obtain ⟨n0, hn0⟩ : ∃ n0 : Nat, min l.length 1048576 = n0 := ⟨_, rfl⟩
  have d0 : min (l.length : Int) 1048576 = (n0 : Int) := by omega
  rw [hn0] at hN
  have hn1 : n0 ≤ 1048576 := by omega
  have HN := Lib.hid hN
  have HRN := Lib.hid hRN
  clear hn0 hN hR hRN
  go_enter Tryd.func16, Tryd.ntmps16
  go_wp2_with fail
  go_loopw [3, 4] (fun v c wr => ∃ (i n : Nat), i ≤ l.length ∧ c = .int .i64 i ∧ v = .int .i64 n ∧ n ≤ 1050624 ∧ Hid (longN (l.drop i) n = N) ∧ w = wr) (fun _ c _ => l.length - (intOf c).toNat)
  case atStart => exact ⟨0, n0, Nat.zero_le _, rfl, rfl, by omega, HN.out, rfl⟩
  case round =>
    obtain ⟨i, n, hi, rfl, rfl, hn, HI, rfl⟩ := hrel
    by_cases hlt : i < l.length
    · have b1 : decide ((i : Int) < (l.length : Int)) = true := by simpa using hlt
      by_cases hle : n ≤ 2048
      · have b2 : decide ((n : Int) ≤ 2048) = true := by simpa using by omega
        obtain ⟨r, ad, rfl, h2, h3⟩ := hA.2.2 i hlt
        have ht := HI.out
        rw [List.drop_eq_getElem_cons hlt] at ht
        unfold longN at ht
        rw [if_pos hle] at ht
        obtain ⟨x, hx⟩ : ∃ x, l[i]'hlt = x := ⟨_, rfl⟩
        rw [hx] at r h3 ht
        obtain ⟨m, hm⟩ : ∃ m : Nat, min x.length 1048576 = m := ⟨_, rfl⟩
        rw [hm] at ht
        have d1 : min (x.length : Int) 1048576 = (m : Int) := by omega
        have hmm : m ≤ 1048576 := by omega
        have HM := Lib.hid ht
        clear ht hx hm
        go_wp2_with fail
        go_roundw
        case rel => exact ⟨i + 1, n + m, by omega, by go_num, by go_num, by omega, HM.out, trivial⟩
        case measure => simp [intOf]; omega
      · have b2 : decide ((n : Int) ≤ 2048) = false := by simpa using by omega
        have e := HI.out
        rw [longN_big _ _ hle] at e
        have t1 : decide (2048 < n) = R := by rw [e]; exact HRN.out
        have HT := Lib.hid t1
        clear e t1
        go_wp2_with fail
        go_ret
        exact ⟨ret_bool (by rw [← HT.out]; exact decide_eq_decide.2 (by omega)), rfl⟩
    · have b1 : decide ((i : Int) < (l.length : Int)) = false := by simpa using hlt
      obtain rfl : i = l.length := by omega
      have e := HI.out
      rw [List.drop_length] at e
      have t1 : decide (2048 < n) = R := by rw [show n = N from e]; exact HRN.out
      have HT := Lib.hid t1
      clear e t1
      go_wp2_with fail
      go_ret
      exact ⟨ret_bool (by rw [← HT.out]; exact decide_eq_decide.2 (by omega)), rfl⟩
/-- Where frames end. -/
def endsI (l : List Byts) (n : Nat) : List Int := (List.range (n + 1)).map fun j => ((rowF (l.take j)).length : Int)
theorem endsI_zero (l : List Byts) : endsI l 0 = [0] := by simp [endsI, rowF]
theorem endsI_next (l : List Byts) (n : Nat) : endsI l (n + 1) = endsI l n ++ [((rowF (l.take (n + 1))).length : Int)] := by
  unfold endsI; rw [List.range_succ, List.map_append]; simp
theorem endsI_len (l : List Byts) (n : Nat) : (endsI l n).length = n + 1 := by simp [endsI]
theorem endsI_get (l : List Byts) (n i : Nat) (h : i < (endsI l n).length) : (endsI l n)[i] = ((rowF (l.take i)).length : Int) := by simp [endsI]
theorem int_one (w : World) (B : Nat) (hB : B ≤ w.heap.size) : NewI B (.slice (some ⟨w.heap.size, 0, none⟩) 1 1) [0] (w.alloc (.cells #[.int .i64 0] 3)) :=
  ⟨⟨rfl, .inr ⟨w.heap.size, 1, #[.int .i64 0], rfl, hB, heap_alloc_new w _, Nat.le_refl _, by unfold maxLen; omega, rfl, rfl⟩⟩, by intro x hx; simp at hx; subst hx; omega⟩
theorem NewT.is {B : Nat} {A : Option Addr} {cap : Nat} {l : List Byts} {w : World} (h : NewT B (.slice A l.length cap) l w) : TsAt w A l.length cap l := by
  obtain ⟨A', c', e, h1⟩ := h.at
  injection e with e1 _ e3
  subst e1 e3
  exact h1
theorem NewI.is {B : Nat} {A : Option Addr} {cap : Nat} {l : List Int} {w : World} (h : NewI B (.slice A l.length cap) l w) : IAt w A l.length cap l := by
  obtain ⟨A', c', e, h1⟩ := h.at
  injection e with e1 _ e3
  subst e1 e3
  exact h1
theorem tsame_yes {A A' : Option Addr} {n n' cap cap' : Nat} {l : List Byts} {w : World} (hl : l.length ≤ 9223372036854775807) (hA : TsAt w A n cap l) (hB : TsAt w A' n' cap' l) :
    Calls Tryd.prog 15 #[.slice A n cap, .slice A' n' cap'] w fun e w' => e = .returned (.bool true) ∧ Below w.heap.size w w' := by
  have := tsame_c _ _ _ _ _ _ l l w hl hl hA hB
  simpa using this
set_option maxRecDepth 100000 in
set_option maxHeartbeats 2000000 in
theorem law_FrameBack (a0 : Option Addr) (len0 cap0 : Nat) (z0 : List Byts) (a1 : Int) (w : World) (hl0 : len0 ≤ maxLen) (w0 : TsAt w a0 len0 cap0 z0) (w1 : (Lit.int .i64 a1).wf = true) (hT : Halves w) :
    Calls Tryd.prog 5 #[.slice a0 len0 cap0, .int .i64 a1] w fun e w' => e = .returned (.bool true) ∧ Below w.heap.size w w' := by
  unfold maxLen at hl0
  obtain ⟨r1, r2⟩ := bounds_i64 w1
  have hle := w0.1
  subst hle
  have CL := Lib.hid (long_c a0 z0.length cap0 z0 w (by omega) w0)
  cases hB : longB z0 with
  | true =>
    rw [hB] at CL
    clear hB
    go_enter Tryd.func5, Tryd.ntmps5
    go_wp2_with (go_at_call 16; refine CL.out.mono ?_; rintro e v1 ⟨rfl, rfl⟩; dsimp only)
    go_ret
    exact ⟨rfl, Below.refl _ _⟩
  | false =>
    have hsm := longB_small hB
    rw [hB] at CL
    have hsh : ∀ t ∈ z0, Short t := fun t ht => by have := totB_mem z0 t ht; show _ < _; omega
    have hrow := rowF_len z0 hsh
    have hSc := scans_row hsh
    obtain ⟨S, hS⟩ : ∃ S, rowF z0 = S := ⟨_, rfl⟩
    have hSl : S.length ≤ 30000 := by rw [← hS]; omega
    have hcap := w0.2.1
    obtain ⟨N, hN⟩ : ∃ N, z0.length = N := ⟨_, rfl⟩
    have HZ : Hid (z0.length = N) := hN
    rw [hN] at w0
    have HW := Lib.hid w0
    have HS := Lib.hid hS
    have HSM := Lib.hid hsm
    have HSH := Lib.hid hsh
    have hN2 : N ≤ 2048 := by omega
    rw [hS] at hSc
    have C1 := Lib.hid (fun W (hW : Below w.heap.size w W) => scan_is hSc (m := S.length) (by simp) W (by omega) (hT.below hW))
    have CE := Lib.hid (fun W (hW : Below w.heap.size w W) => frame_c [] W (by simp) (hT.below hW))
    obtain ⟨E, hE⟩ : ∃ E, frameL [] = E := ⟨_, rfl⟩
    have hE3 := empty3
    rw [hE] at CE hE3
    rw [hN] at CL hcap ⊢
    clear hS hrow hSc hE hsm hsh w0 hN hl0
    go_enter Tryd.func5, Tryd.ntmps5
    go_wp2_with (go_at_call 16; refine CL.out.mono ?_; rintro e v1 ⟨rfl, rfl⟩; dsimp only)
    go_loopw [5, 6, 7] (fun s v c wr => ∃ (i : Nat) (S1 : Byts) (A : Option Addr) (cap : Nat) (X : List Int), i ≤ N ∧ s = .string (str S1) ∧ c = .int .i64 i ∧ v = .slice A X.length cap ∧ Hid (rowF (z0.take i) = S1 ∧ S1.length ≤ 30000) ∧ Hid (X = endsI z0 i) ∧ Hid (NewI w.heap.size (.slice A X.length cap) X wr) ∧ Below w.heap.size w wr) (fun _ _ c _ => N - (intOf c).toNat)
    case atStart => exact ⟨0, [], _, _, [0], Nat.zero_le _, rfl, rfl, rfl, ⟨by simp [rowF], by simp⟩, (endsI_zero z0).symm, int_one _ _ (Nat.le_refl _), (Below.refl _ w).alloc (Nat.le_refl _) _⟩
    case round =>
      obtain ⟨i, S1, A, cap, X, hi, rfl, rfl, rfl, HS1, HX, HN, hb⟩ := hrel
      have hbs := hb.size
      by_cases hlt : i < N
      · have hltz : i < z0.length := by have := HZ.out; omega
        obtain ⟨r, ad, rfl, h2, h3⟩ := (HW.out.below hb).2.2 i hltz
        have hst := rowF_take z0 i hltz
        rw [HS1.out.1] at hst
        have hnl : (rowF (z0.take (i + 1))).length ≤ 30000 := by have := rowF_take_le z0 (i + 1); rw [HS.out] at this; omega
        have htm := totB_mem z0 _ (List.getElem_mem hltz)
        obtain ⟨t, ht⟩ : ∃ t, z0[i]'hltz = t := ⟨_, rfl⟩
        rw [ht] at r h3 hst htm
        have hts : t.length ≤ 2048 := by have := HSM.out; omega
        have CF := Lib.hid (frame_c t wr (by omega) (hT.below hb))
        obtain ⟨F, hF⟩ : ∃ F, frameL t = F := ⟨_, rfl⟩
        rw [hF] at CF hst
        have hsl : (S1 ++ F).length ≤ 30000 := by rw [← hst]; exact hnl
        have hsl2 : S1.length + F.length ≤ 30000 := by rw [← List.length_append]; exact hsl
        have hXl : X.length ≤ 100000 := by rw [HX.out, endsI_len]; omega
        have HEX : Hid (X ++ [((S1.length + F.length : Nat) : Int)] = endsI z0 (i + 1)) := by
          show _ = _
          rw [endsI_next, HX.out, hst, List.length_append]
        have HST : Hid (rowF (z0.take (i + 1)) = S1 ++ F ∧ (S1 ++ F).length ≤ 30000) := ⟨hst, hsl⟩
        have hsn : ((S1 ++ F).length : Int) = ((S1.length + F.length : Nat) : Int) := by rw [List.length_append]
        clear hst hnl htm ht hF hsl r
        go_wp2_with (first
          | (go_at_call 11; refine CF.out.mono ?_; rintro e v2 ⟨rfl, hb2⟩; have hb3 := below2 hb hb2 hbs; have hb3s := hb3.size; have HN2 := Lib.hid (HN.out.below hb2); dsimp only)
          | (at_builtin; refine app_one rfl (.tmp 30) (.tmp 33) rfl rfl HN2.out ((S1.length + F.length : Nat) : Int) rfl rfl (by omega) (by omega) (by omega) hb3s ?c1))
        case c1 =>
          intro A3 cap3 w3 L HL hN3 hb4
          have hb5 := hb3.trans hb4
          have HN3 := Lib.hid hN3
          clear hN3
          go_wp2_with fail
          go_roundw
          case rel => exact ⟨i + 1, S1 ++ F, A3, cap3, L, by omega, rfl, by go_num, rfl, HST.out, by show _ = _; rw [HL.out]; exact HEX.out, HN3.out, hb5⟩
          case measure => simp [intOf]; omega
      · obtain rfl : i = N := by omega
        have e1 : S1 = S := by rw [← HS1.out.1, ← HS.out]; congr 1; exact List.take_of_length_le (by have := HZ.out; omega)
        subst e1
        have HXL : Hid (X.length = i + 1) := by show _ = _; rw [HX.out, endsI_len]
        obtain ⟨M, hM⟩ : ∃ M, X.length = M := ⟨_, rfl⟩
        have hM1 : M ≤ i + 1 := by have := HXL.out; omega
        have hM2 : i + 1 ≤ M := by have := HXL.out; omega
        have HI : Hid (IAt wr A M cap X) := by have := HN.out.is; rw [hM] at this; exact this
        rw [hM] at HN ⊢
        have HM := Lib.hid hM
        clear hM HN hlt
        have CM := Lib.hid (fun W A5 c5 (hW : Below wr.heap.size wr W) (h5 : TsAt W A5 i c5 z0) => tsame_yes (n := i) (cap := c5) (n' := i) (cap' := cap0) (l := z0) (by have := HZ.out; omega) h5 (HW.out.below (hb.trans (hW.mono hbs))))
        obtain ⟨t, ht⟩ : ∃ t : Int, a1.tmod ((S1.length : Int) + 1) = t := ⟨_, rfl⟩
        have ht1 : -((S1.length : Int) + 1) < t := by rw [← ht]; exact Int.lt_tmod_of_pos _ (by omega)
        have ht2 : t < (S1.length : Int) + 1 := by rw [← ht]; exact Int.tmod_lt_of_pos _ (by omega)
        obtain ⟨k, hk⟩ : ∃ k : Nat, (t + S1.length + 1) % ((S1.length : Int) + 1) = k := ⟨((t + S1.length + 1) % ((S1.length : Int) + 1)).toNat, by have := Int.emod_nonneg (t + S1.length + 1) (show (S1.length : Int) + 1 ≠ 0 by omega); omega⟩
        have hk2 : k ≤ S1.length := by have : (k : Int) < (S1.length : Int) + 1 := by rw [← hk]; exact Int.emod_lt_of_pos _ (by omega)
                                       omega
        go_wp2_with (first
          | (go_at_call 13; refine (C1.out _ hb).mono ?_; rintro e v2 ⟨⟨A2, c2, rfl, hN2⟩, hb2⟩; have hb3 := below2 hb hb2 hbs; have h5 := hN2.is; rw [HZ.out] at h5 ⊢; have H5 := Lib.hid h5; clear hN2 h5; dsimp only)
          | (go_at_call 15; refine (CM.out _ _ _ hb2 H5.out).mono ?_; rintro e v3 ⟨rfl, hb4⟩; have hb5 := below2 hb3 hb4 hb3.size; have hbk := below2 hb2 hb4 hb2.size; dsimp only)
          | (go_at_call 11; refine (CE.out _ hb5).mono ?_; rintro e v4 ⟨rfl, hb6⟩; have hb7 := below2 hb5 hb6 hb5.size; have hbl := below2 hbk hb6 hbk.size; dsimp only))
        clear hb5 hb6 hbk hb2 hb3 hb4
        have HI := Lib.hid (HI.out.below hbl)
        obtain ⟨_, ad, rfl, _, _⟩ := HI.out.2.2 0 (by have := HXL.out; omega)
        have h0 : rowF (z0.take 0) = [] := by simp [rowF]
        go_loopw [11] (fun c wr => ∃ m : Nat, m ≤ i ∧ c = .int .i64 m ∧ Hid ((rowF (z0.take m)).length ≤ k) ∧ v4 = wr) (fun c _ => i - (intOf c).toNat)
        case atStart => exact ⟨0, Nat.zero_le _, rfl, by show _ ≤ _; rw [h0]; exact Nat.zero_le _, rfl⟩
        case round =>
          obtain ⟨m, hm, rfl, HMK, rfl⟩ := hrel
          have hbm : Below v4.heap.size v4 v4 := Below.refl _ _
          have hbw := hb7
          obtain ⟨em, hem⟩ : ∃ em, (rowF (z0.take m)).length = em := ⟨_, rfl⟩
          have hek : em ≤ k := by rw [← hem]; exact HMK.out
          have HEM := Lib.hid hem
          obtain ⟨L, hL⟩ : ∃ L, z0.take m = L := ⟨_, rfl⟩
          have HL := Lib.hid hL
          have HLL : Hid (L.length = m) := by show _ = _; rw [← hL, List.length_take]; have := HZ.out; omega
          have HWT : Hid (TsAt w a0 m cap0 L) := by have := HW.out.taken m (by omega); rw [hL] at this; exact this
          have HXM : Hid (∀ h : m < X.length, X[m] = (em : Int)) := fun h => by
            have e := HX.out
            subst e
            rw [endsI_get, hem]
          clear hem hL
          by_cases hlt : m < i
          · have b1 : decide ((m : Int) + 1 < (M : Int)) = true := by simpa using by omega
            obtain ⟨⟨q1, q2⟩, ad', ea, j2, j3⟩ := HI.out.2.2 (m + 1) (by have := HXL.out; omega)
            injection ea with ea
            subst ea
            have e2 : X[m + 1]'(by have := HXL.out; omega) = ((rowF (z0.take (m + 1))).length : Int) := by
              have e := HX.out
              subst e
              rw [endsI_get]
            rw [add_succ, e2] at j3
            obtain ⟨en, hen⟩ : ∃ en, (rowF (z0.take (m + 1))).length = en := ⟨_, rfl⟩
            rw [hen] at j3
            have HEN := Lib.hid hen
            have hi1 : m + 1 < M := by omega
            clear e2 hen
            by_cases hq : en ≤ k
            · have b2 : decide ((en : Int) ≤ (k : Int)) = true := by simpa using hq
              go_wp2_with fail
              go_roundw
              case rel => exact ⟨m + 1, by omega, by go_num, by show _ ≤ _; rw [HEN.out]; exact hq, trivial⟩
              case measure => simp [intOf]; omega
            · have b2 : decide ((en : Int) ≤ (k : Int)) = false := by simpa using hq
              have HNX : Hid (m < i → k < (rowF (z0.take (m + 1))).length) := fun _ => by rw [HEN.out]; omega
              have HSC : Hid (Scans (S1.take k) L ((S1.take k).drop em)) := by
                have := scans_cut HSH.out (m := m) (k := k) (by have := HZ.out; omega) (by rw [HEM.out]; omega) (by have := HZ.out; intro h; exact HNX.out (by omega)) (by rw [HS.out]; omega)
                rw [HS.out, HEM.out, HL.out] at this
                exact this
              have hkm : (S1.take k).length - ((S1.take k).drop em).length = em := by rw [List.length_drop, List.length_take]; omega
              have hTl : (S1.take k).length ≤ 30000 := by rw [List.length_take]; omega
              obtain ⟨T, hT2⟩ : ∃ T, S1.take k = T := ⟨_, rfl⟩
              rw [hT2] at HSC hkm hTl
              have CS := Lib.hid (fun W (hW : Below w.heap.size w W) => scan_is HSC.out hkm W (by omega) (hT.below hW))
              have hLm : L.length ≤ 9223372036854775807 := by have := HLL.out; omega
              obtain ⟨_, ad', ea, k2, k3⟩ := (HI.out.below hbm).2.2 m (by have := HXL.out; omega)
              injection ea with ea
              subst ea
              rw [HXM.out] at k3
              clear hkm
              go_wp2_with (first
                | (go_at_call 13; refine (CS.out _ hbw).mono ?_; rintro e v5 ⟨⟨A5, c5, rfl, hN5⟩, hb5⟩; have hb6 := below2 hbw hb5 hbw.size; have k4 := (hb5.cell (p := ad.add m) k2).trans k3; have HT5 := Lib.hid hN5.is; clear hN5; dsimp only)
                | (go_at_call 15; refine (tsame_yes hLm HT5.out ((HWT.out.below hb6))).mono ?_; rintro e v6 ⟨rfl, hb7⟩; have hb8 := below2 hb6 hb7 hb6.size; dsimp only))
              go_ret
              exact ⟨by simp [go_sem], hb8⟩
          · have b1 : decide ((m : Int) + 1 < (M : Int)) = false := by simpa using by omega
            have HNX : Hid (m < i → k < (rowF (z0.take (m + 1))).length) := fun h => absurd h hlt
            clear hlt
            have HSC : Hid (Scans (S1.take k) L ((S1.take k).drop em)) := by
              have := scans_cut HSH.out (m := m) (k := k) (by have := HZ.out; omega) (by rw [HEM.out]; omega) (by have := HZ.out; intro h; exact HNX.out (by omega)) (by rw [HS.out]; omega)
              rw [HS.out, HEM.out, HL.out] at this
              exact this
            have hkm : (S1.take k).length - ((S1.take k).drop em).length = em := by rw [List.length_drop, List.length_take]; omega
            have hTl : (S1.take k).length ≤ 30000 := by rw [List.length_take]; omega
            obtain ⟨T, hT2⟩ : ∃ T, S1.take k = T := ⟨_, rfl⟩
            rw [hT2] at HSC hkm hTl
            have CS := Lib.hid (fun W (hW : Below w.heap.size w W) => scan_is HSC.out hkm W (by omega) (hT.below hW))
            have hLm : L.length ≤ 9223372036854775807 := by have := HLL.out; omega
            obtain ⟨_, ad', ea, k2, k3⟩ := (HI.out.below hbm).2.2 m (by have := HXL.out; omega)
            injection ea with ea
            subst ea
            rw [HXM.out] at k3
            clear hkm
            go_wp2_with (first
              | (go_at_call 13; refine (CS.out _ hbw).mono ?_; rintro e v5 ⟨⟨A5, c5, rfl, hN5⟩, hb5⟩; have hb6 := below2 hbw hb5 hbw.size; have k4 := (hb5.cell (p := ad.add m) k2).trans k3; have HT5 := Lib.hid hN5.is; clear hN5; dsimp only)
              | (go_at_call 15; refine (tsame_yes hLm HT5.out ((HWT.out.below hb6))).mono ?_; rintro e v6 ⟨rfl, hb7⟩; have hb8 := below2 hb6 hb7 hb6.size; dsimp only))
            go_ret
            exact ⟨by simp [go_sem], hb8⟩
end Go.Proofs.YtfhcjlmolneooaaDoor
