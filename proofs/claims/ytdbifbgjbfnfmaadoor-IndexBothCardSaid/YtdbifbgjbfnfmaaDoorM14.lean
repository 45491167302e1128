/-
  Texts of the same seat, one behind the other (merged; each says at its head what it is).
-/
import Derived.Test.YtdbifbgjbfnfmaaDoorM13
import Derived.Test.YtdbifbgjbfnfmaaDoorM08
import Derived.Test.YtdbifbgjbfnfmaaDoorM09
import Derived.Test.YtdbifbgjbfnfmaaDoorM07
/-
  Layer 7 (index): the program's Encode, guess and Decode.
-/
namespace Go.Proofs.YtdbifbgjbfnfmaaDoor
open Go.RowKit Go.Deep
attribute [local go_sem] str_size str_append str_toList str_get str_extract
set_option linter.unusedVariables false
set_option linter.unusedSimpArgs false
set_option maxRecDepth 100000 in
set_option maxHeartbeats 2000000 in
theorem ixEncode_c (F : List Nat) (q : Nat) (X : Ix) (w : World) (h : IsX F q X w) (hE : Env w) :
    Calls Tryd.prog 25 #[.pointer (some ⟨q, 0, none⟩)] w fun e w' => e = .returned (.string (str (encX X))) ∧ Below w.heap.size w w' := by
  have CL := Lib.hid (fun W (hW : Below w.heap.size w W) => ixLenS_c F q X W (h.below hW))
  obtain ⟨A, c, bi, bo, h1, h2, _⟩ := h.at
  have hc := blk_cell h1 0
  simp only [List.getElem?_toArray, List.getElem?_cons_zero] at hc
  have hX := h.good.few
  have hok := Lib.hid h.good.ok
  have HC := Lib.hid (fun (W : World) (hW : Below w.heap.size w W) => (hW.cell (p := ⟨q, 0, none⟩) (lt_of_block h1)).trans hc)
  have CU := Lib.hid (fun W => uint_c X.length W (by omega))
  have CP := Lib.hid (fun A l cap W (hW : Below w.heap.size w W) (hA : LAt W A l.length l) (ho : okL l = true) => print_c A l.length cap l W (by have := (labs_small ho).1; omega) hA (fun x hx => by have := okL_32 ho x hx; omega) (Utf8Tabs_below hE.tabs hW))
  obtain ⟨U, hU⟩ : ∃ U, uv X.length = U := ⟨_, rfl⟩
  have hUl : U.length ≤ 10 := by rw [← hU]; exact uv_len10 (by omega)
  rw [hU] at CU
  have HU := Lib.hid hU
  clear h1 hc h hU
  have hbd0 := Bd.fresh w
  have hb0 : Below w.heap.size w (w.alloc (.cells #[.pointer none, .slice none 0 0] 80)) := (Below.refl _ w).alloc (Nat.le_refl _) _
  go_enter Tryd.func25, Tryd.ntmps25
  go_wp2_with fail
  generalize w.alloc (.cells #[.pointer none, .slice none 0 0] 80) = W0 at *
  go_wp2_with (first
    | (go_at_call 19; refine (CL.out _ hb0).mono ?_; rintro e w1 ⟨rfl, rfl⟩; dsimp only)
    | (go_at_call 43; refine (CU.out _).mono ?_; rintro e w2 ⟨rfl, hb2⟩; have hbd2 := hbd0.keeps hb2; have hbr2 := below2 hb0 hb2 hb0.size; have hs2 := hbr2.size; dsimp only))
  go_wp2_with (first
    | (go_at_call 42; refine (writeString_c w.heap.size w.heap.size [] U _ hbd2 hs2 (by simp; omega)).mono ?_; rintro e w3 ⟨rfl, hbd3, hb3, -⟩; have hbr3 := hbr2.trans hb3; have hc3 := HC.out _ hbr3; dsimp only))
  have hbd3 : Bd w.heap.size w.heap.size U w3 := by simpa using hbd3
  clear hbd0 hbd2 hb2 hbr2 hb3 hs2 hb0
  go_loopw [18] (fun c wr => ∃ (i : Nat) (s : Txt), i ≤ X.length ∧ c = .int .i64 i ∧ Bd w.heap.size w.heap.size s wr ∧ Hid (s = U ++ encB (X.take i)) ∧ s.length ≤ 150000 ∧ Below w.heap.size w wr) (fun c _ => X.length - (intOf c).toNat)
  case atStart => exact ⟨0, U, Nat.zero_le _, rfl, hbd3, by show _ = _; simp [encB], by omega, hbr3⟩
  case round =>
    clear hc3 hbd3 hbr3
    obtain ⟨i, s, hi, rfl, hbd, HS, hsl, hb⟩ := hrel
    have hbs := hb.size
    have hc := HC.out _ hb
    by_cases hlt : i < X.length
    · obtain ⟨ad, Ai, ci, rfl, k2, k3, k4, k5⟩ := h2.2.2 i hlt
      have k3 := (hb.cell (p := ad.add i) k2).trans k3
      have ho := hok.out _ (List.getElem_mem hlt)
      have hst := encB_take X i hlt
      have hel := encB_len (X := X.take (i + 1)) (fun l hl => hok.out l (List.mem_of_mem_take hl))
      rw [List.length_take] at hel
      obtain ⟨l, hl⟩ : ∃ l, X[i]'hlt = l := ⟨_, rfl⟩
      rw [hl] at k3 k4 hst ho
      have cp := CP.out Ai l ci wr hb (k4.below hb) ho
      rw [if_pos ho] at cp
      obtain ⟨t, ht⟩ : ∃ t, printL l = t := ⟨_, rfl⟩
      have htl : t.length ≤ 700 := by rw [← ht]; exact printL_len ho
      rw [ht] at cp hst
      have CT := Lib.hid (fun W => text_c t W (by omega))
      obtain ⟨T, hT⟩ : ∃ T, tx t = T := ⟨_, rfl⟩
      have hTl : T.length ≤ 710 := by rw [← hT]; have := tx_len t (by omega); omega
      rw [hT] at CT hst
      have HE : Hid (s ++ T = U ++ encB (X.take (i + 1))) := by show _ = _; rw [hst, HS.out, List.append_assoc]
      have hnl : s.length + T.length ≤ 150000 := by
        have := congrArg List.length HE.out
        rw [List.length_append, List.length_append] at this
        omega
      have CPh := Lib.hid cp
      have HBD := Lib.hid hbd
      clear cp hst hel hl ht hT k4 k5 ho htl hbd
      go_wp2_with (first
        | (go_at_call 44; refine CPh.out.mono ?_; rintro e w2 ⟨rfl, hb2⟩; have hb3 := below2 hb hb2 hbs; dsimp only)
        | (go_at_call 45; refine (CT.out _).mono ?_; rintro e w3 ⟨rfl, hb4⟩; have hb5 := below2 hb3 hb4 hb3.size; have hs5 := hb5.size; have hbd5 := (HBD.out.keeps hb2).keeps hb4; dsimp only)
        | (go_at_call 42; refine (writeString_c w.heap.size w.heap.size s T _ hbd5 hs5 (by omega)).mono ?_; rintro e w6 ⟨rfl, hbd6, hb6, -⟩; have hb7 := hb5.trans hb6; have HBD6 := Lib.hid hbd6; clear hbd6 hbd5; dsimp only))
      go_roundw
      case rel => exact ⟨i + 1, s ++ T, by omega, by go_num, HBD6.out, HE.out, by rw [List.length_append]; exact hnl, hb7⟩
      case measure => simp [intOf]; omega
    · obtain rfl : i = X.length := by omega
      have e := HS.out
      rw [List.take_length] at e
      have HE : Hid (s = encX X) := by show _ = _; rw [e, ← HU.out]; rfl
      clear e
      go_wp2_with (first
        | (go_at_call 46; refine (string_c w.heap.size w.heap.size s _ hbd hbs).mono ?_; rintro e w3 ⟨rfl, hb3⟩; have hb4 := hb.trans hb3; dsimp only))
      go_ret
      exact ⟨by rw [HE.out]; rfl, hb4⟩
/-- What guess tells. -/
def GuessX (s : Txt) (B : Nat) (e : Ending) (w' : World) : Prop :=
  (e = .returned (.tuple #[.pointer none, .bool false]) ∧ decX s = none) ∨
  ∃ F q Y, e = .returned (.tuple #[.pointer (some ⟨q, 0, none⟩), .bool true]) ∧ IsX F q Y w' ∧ (∀ k ∈ F, B ≤ k) ∧ ∀ X, decX s = some X → X = Y
theorem text_short {s : Txt} (hs : s.length ≤ 4096 ∨ ∃ X, Good X ∧ encX X = s) {n a j : Nat} {Y : Ix} (hR : (Read s n a Y ∧ Y.length = j) ∨ decX s = none) (hj : j < n) {t : Txt} {nx : Int} (hg : getT s a = (t, nx, 0)) : t.length ≤ 16384 := by
  rcases hs with hs | ⟨X, h1, h2⟩
  · obtain ⟨k, _, _, h3, h4⟩ := getT_at hg
    have := congrArg List.length h4
    simp only [List.length_append, List.length_take] at this
    have h5 : t.length ≤ (tx t).length := by unfold tx; simp
    omega
  · rcases hR with ⟨hR, e⟩ | hR
    · obtain ⟨l, hl, _, e2⟩ := hR.text (by omega) h1 h2
      rw [hg] at e2
      simp only [Prod.mk.injEq] at e2
      rw [e2.1]
      have := printL_len hl
      omega
    · rw [decX_some h1 h2] at hR; cases hR
set_option maxRecDepth 100000 in
set_option maxHeartbeats 2000000 in
theorem ixGuess_c (s : Txt) (w : World) (hs : s.length ≤ 4096 ∨ ∃ X, Good X ∧ encX X = s) (hE : Env w) :
    Calls Tryd.prog 47 #[.string (str s)] w fun e w' => GuessX s w.heap.size e w' ∧ Below w.heap.size w w' := by
  have hsl : s.length ≤ 150000 := by
    rcases hs with hs | ⟨X, h1, h2⟩
    · omega
    · rw [← h2]; exact encX_len h1
  obtain ⟨v, nx, er, hu⟩ : ∃ v nx er, getU s 0 = (v, nx, er) := ⟨_, _, _, rfl⟩
  have hr := getU_range hu
  have CU := Lib.hid (fun W => getUint_c s 0 v nx er W (by omega) (by omega) (by omega) hu)
  by_cases her : er = 0
  · subst her
    obtain ⟨n, k, rfl, rfl, g1, g2, g3, g4⟩ := getU_at (a := 0) hu
    have hR0 : (Read s n k [] ∧ ([] : Ix).length = 0) ∨ decX s = none := by
      by_cases hv : 200 < (n : Int)
      · exact .inr (read_head_bad hu (.inr hv))
      · obtain ⟨n', k', e1, e2, hR⟩ := read_head hu hv
        obtain rfl : n = n' := by omega
        obtain rfl : k = k' := by omega
        exact .inl ⟨hR, rfl⟩
    have HR0 := Lib.hid hR0
    have HS := Lib.hid hs
    have HEN := Lib.hid hE
    clear hR0 hr hu hs hE g4
    go_enter Tryd.func47, Tryd.ntmps47
    go_wp2_with (first
      | (go_at_call 73; refine (CU.out _).mono ?_; rintro e w1 ⟨rfl, rfl⟩; dsimp only)
      | (go_at_call 31; refine (ixNewS_c _).mono ?_; rintro e w2 ⟨⟨q, F0, rfl, hX0, hF0⟩, hb2⟩; have HX0 := Lib.hid (And.intro hX0 hF0); clear hX0 hF0; dsimp only))
    go_loopw [5, 22] (fun at_ c wr => ∃ (j a : Nat) (Y : Ix) (F : List Nat), j ≤ n ∧ c = .int .u64 j ∧ at_ = .int .i64 a ∧ a ≤ s.length ∧ Hid (IsX F q Y wr ∧ ∀ k ∈ F, w.heap.size ≤ k) ∧ Hid ((Read s n a Y ∧ Y.length = j) ∨ decX s = none) ∧ Below w.heap.size w wr) (fun _ c _ => n - (intOf c).toNat)
    case atStart => exact ⟨0, k, [], F0, Nat.zero_le _, rfl, rfl, g2, HX0.out, HR0.out, hb2⟩
    case round =>
      clear HX0 hb2
      obtain ⟨j, a, Y, F, hj, rfl, rfl, ha, HX, HR, hb⟩ := hrel
      have hbs := hb.size
      by_cases hlt : j < n
      · obtain ⟨t, nx2, er2, hgt⟩ : ∃ t nx er, getT s a = (t, nx, er) := ⟨_, _, _, rfl⟩
        have CT := Lib.hid (fun W => getText_c s a t nx2 er2 W (by omega) (by omega) (by omega) hgt)
        by_cases her2 : er2 = 0
        · subst her2
          obtain ⟨k2, rfl, g5, g6, _⟩ := getT_at hgt
          have htl := text_short HS.out HR.out hlt hgt
          obtain ⟨mx, hm1, hm2⟩ := HEN.out.max
          have CP := Lib.hid (fun W (hW : Below w.heap.size w W) => parse_c t W htl mx ((hW.cell (p := ⟨0, 0, none⟩) hm2).trans hm1) (Nat.lt_of_lt_of_le hm2 hW.size) (Utf8Tabs_below HEN.out.tabs hW))
          cases hp : parseL t with
          | none =>
            rw [hp] at CP
            have e : decX s = none := by
              rcases HR.out with ⟨h1, h2⟩ | h1
              · exact h1.bad_labels (by omega) hgt hp
              · exact h1
            have HE := Lib.hid e
            clear e hgt hp htl hm1 hm2
            go_wp2_with (first
              | (go_at_call 74; refine (CT.out _).mono ?_; rintro e w3 ⟨rfl, hb3⟩; have hb4 := below2 hb hb3 hbs; dsimp only)
              | (go_at_call 75; refine (CP.out _ hb4).mono ?_; rintro e w4 ⟨hpe, hb5⟩; obtain rfl : e = .returned (.tuple #[.slice none 0 0, .int .i64 11]) := hpe; have hb6 := below2 hb4 hb5 hb4.size; dsimp only))
            go_ret2
            exact ⟨.inl ⟨rfl, HE.out⟩, hb6⟩
          | some l =>
            rw [hp] at CP
            have ho := (parseL_of hp).1
            have hl8 := okL_len ho
            have hst : (Read s n k2 (addX Y l) ∧ (addX Y l).length = j + 1) ∨ decX s = none := by
              rcases HR.out with ⟨h1, h2⟩ | h1
              · by_cases hm : l ∈ Y
                · exact .inr (h1.twice (by omega) hgt hp hm)
                · obtain ⟨q', e1, h3⟩ := h1.next (by omega) hgt hp hm
                  obtain rfl : k2 = q' := by omega
                  have e2 : addX Y l = Y ++ [l] := by
                    unfold addX
                    rw [if_pos ⟨ho, hm, by have := h1.n200; omega⟩]
                  rw [e2]
                  exact .inl ⟨h3, by simp [h2]⟩
              · exact .inr h1
            have HST := Lib.hid hst
            have CA := Lib.hid (fun W A cap (hW : Below wr.heap.size wr W) (hA : LAt W A l.length l) => ixAdd_c F q Y A l.length cap l W (HX.out.1.below hW) hA (by omega) (fun x hx => by have := okL_32 ho x hx; omega) (HEN.out.below (hb.trans (hW.mono hbs))))
            clear hst hgt hp htl hm1 hm2
            go_wp2_with (first
              | (go_at_call 74; refine (CT.out _).mono ?_; rintro e w3 ⟨rfl, hb3⟩; have hb4 := below2 hb hb3 hbs; dsimp only)
              | (go_at_call 75; refine (CP.out _ hb4).mono ?_; rintro e w4 ⟨hpe, hb5⟩; obtain ⟨A4, c4, rfl, hL4, -⟩ := hpe; have hb6 := hb3.trans (hb5.mono hb3.size); have HL4 := Lib.hid hL4; clear hL4; dsimp only)
              | (go_at_call 17; refine (CA.out _ A4 c4 hb6 HL4.out).mono ?_; rintro e w5 ⟨F5, rfl, hX5, hk5, hF5⟩; have HX5 := Lib.hid (And.intro hX5 (And.intro hk5 hF5)); clear hX5 hk5 hF5; dsimp only))
            go_roundw
            case rel =>
              have hb7 := hb.trans (hb6.mono hbs)
              refine ⟨j + 1, k2, addX Y l, F5, by omega, by go_num, rfl, by omega, ⟨HX5.out.1, fun k hk => ?_⟩, HST.out, hb7.trans (HX5.out.2.1.to hb7.size (fun f hf => HX.out.2 f hf))⟩
              rcases HX5.out.2.2 k hk with h | h
              · exact HX.out.2 k h
              · exact Nat.le_trans hb7.size h
            case measure => simp [intOf]; omega
        · have e : decX s = none := by
            rcases HR.out with ⟨h1, h2⟩ | h1
            · exact h1.bad_text (by omega) hgt her2
            · exact h1
          have HE := Lib.hid e
          have t1 : (er2 != 0) = true := by simpa using her2
          clear e hgt
          go_wp2_with (first
            | (go_at_call 74; refine (CT.out _).mono ?_; rintro e w3 ⟨rfl, hb3⟩; have hb4 := below2 hb hb3 hbs; dsimp only))
          go_ret2
          exact ⟨.inl ⟨rfl, HE.out⟩, hb4⟩
      · obtain rfl : j = n := by omega
        go_wp2_with fail
        go_ret2
        refine ⟨.inr ⟨F, q, Y, rfl, HX.out.1, HX.out.2, fun X hX => ?_⟩, hb⟩
        rcases HR.out with ⟨h1, h2⟩ | h1
        · obtain ⟨e1, e2⟩ := decX_of hX
          obtain ⟨h3, Z, rfl, _⟩ := h1.more e1 e2
          have : Z = [] := by rw [List.length_append] at h3; exact List.length_eq_zero_iff.1 (by omega)
          subst this
          exact List.append_nil _
        · rw [h1] at hX; cases hX
  · have e := read_head_bad hu (.inl her)
    have HE := Lib.hid e
    have t1 : (er != 0) = true := by simpa using her
    clear e hr hu hs hE
    go_enter Tryd.func47, Tryd.ntmps47
    go_wp2_with (first
      | (go_at_call 73; refine (CU.out _).mono ?_; rintro e w1 ⟨rfl, rfl⟩; dsimp only))
    go_ret2
    exact ⟨.inl ⟨rfl, HE.out⟩, Below.refl _ _⟩
/-- What Decode answers: none, or an index of its own. -/
def DecodedX (o : Option Ix) (B : Nat) (e : Ending) (w' : World) : Prop := match o with
  | none => e = .returned (.tuple #[.pointer none, .int .i64 11])
  | some X => ∃ F q, e = .returned (.tuple #[.pointer (some ⟨q, 0, none⟩), .int .i64 0]) ∧ IsX F q X w' ∧ ∀ k ∈ F, B ≤ k
set_option maxRecDepth 100000 in
set_option maxHeartbeats 1000000 in
theorem ixDecode_c (s : Txt) (w : World) (hs : s.length ≤ 4096 ∨ ∃ X, Good X ∧ encX X = s) (hE : Env w) :
    Calls Tryd.prog 26 #[.string (str s)] w fun e w' => DecodedX (decX s) w.heap.size e w' ∧ Below w.heap.size w w' := by
  have CG := Lib.hid (ixGuess_c s w hs hE)
  obtain ⟨O, hO⟩ : ∃ O, decX s = O := ⟨_, rfl⟩
  rw [hO]
  have HO := Lib.hid hO
  have HEN := Lib.hid hE
  clear hO hE hs
  go_enter Tryd.func26, Tryd.ntmps26
  go_wp2_with fail
  go_at_call 47
  refine CG.out.mono ?_
  rintro e w1 ⟨hg, hb1⟩
  rcases hg with ⟨rfl, hn⟩ | ⟨F, q, Y, rfl, hX, hF, hu⟩
  · have e : O = none := by rw [← HO.out]; exact hn
    subst e
    clear hn
    go_wp2_with fail
    go_ret2
    exact ⟨rfl, hb1⟩
  · have CE := Lib.hid (ixEncode_c F q Y w1 hX (HEN.out.below hb1))
    have HX := Lib.hid (And.intro hX (And.intro hF hu))
    clear hX hF hu
    by_cases he : encX Y = s
    · have e : O = some Y := by rw [← HO.out]; exact decX_some HX.out.1.good he
      subst e
      have t1 : (encX Y == s) = true := by simp [he]
      have HT := Lib.hid t1
      clear he t1
      go_wp2_with (first
        | (go_at_call 25; refine CE.out.mono ?_; rintro e w2 ⟨rfl, hb2⟩; have hb3 := below2 hb1 hb2 hb1.size; have t1 := HT.out; dsimp only))
      go_ret2
      exact ⟨⟨F, q, rfl, HX.out.1.below hb2, HX.out.2.1⟩, hb3⟩
    · have e : O = none := by
        cases hq : O with
        | none => rfl
        | some X =>
          have h1 : decX s = some X := by rw [HO.out, hq]
          have := HX.out.2.2 X h1
          subst this
          exact absurd (decX_of h1).2 he
      subst e
      have t1 : (encX Y == s) = false := by rw [beq_eq_false_iff_ne]; exact he
      have HT := Lib.hid t1
      clear he t1
      go_wp2_with (first
        | (go_at_call 25; refine CE.out.mono ?_; rintro e w2 ⟨rfl, hb2⟩; have hb3 := below2 hb1 hb2 hb1.size; have t1 := HT.out; dsimp only))
      go_ret2
      exact ⟨rfl, hb3⟩
end Go.Proofs.YtdbifbgjbfnfmaaDoor
/-
  Layer 6 (post): where the lowest one stands; which are wanted.
-/
namespace Go.Proofs.YtdbifbgjbfnfmaaDoor
open Go.RowKit Go.Deep
set_option linter.unusedVariables false
set_option linter.unusedSimpArgs false
theorem wantAnd_c (p q : Bool) (w : World) : Calls Tryd.prog 62 #[.bool p, .bool q] w fun e w' => e = .returned (.bool (fAnd p q)) ∧ w = w' := by
  cases p <;> cases q
  all_goals
    go_enter Tryd.func62, Tryd.ntmps62
    go_wp2_with fail
    go_ret
    exact ⟨rfl, rfl⟩
theorem wantOr_c (p q : Bool) (w : World) : Calls Tryd.prog 114 #[.bool p, .bool q] w fun e w' => e = .returned (.bool (fOr p q)) ∧ w = w' := by
  cases p <;> cases q
  all_goals
    go_enter Tryd.func114, Tryd.ntmps114
    go_wp2_with fail
    go_ret
    exact ⟨rfl, rfl⟩
theorem wantNot_c (p q : Bool) (w : World) : Calls Tryd.prog 113 #[.bool p, .bool q] w fun e w' => e = .returned (.bool (fNot p q)) ∧ w = w' := by
  cases p <;> cases q
  all_goals
    go_enter Tryd.func113, Tryd.ntmps113
    go_wp2_with fail
    go_ret
    exact ⟨rfl, rfl⟩
theorem ret_two {a b c d : Bool} (h : a = c) (k : b = d) : Ending.returned (.tuple #[.bool a, .bool b]) = .returned (.tuple #[.bool c, .bool d]) := by rw [h, k]
theorem IAt.head {w : World} {A : Option Addr} {n cap : Nat} {x : Int} {l : List Int} (h : IAt w A n cap (x :: l)) :
    ∃ ad, A = some ad ∧ ad.block < w.heap.size ∧ w.cell? ad = some (.int .i64 x) ∧ -9223372036854775808 ≤ x ∧ x ≤ 9223372036854775807 := by
  obtain ⟨⟨r1, r2⟩, ad, rfl, h2, h3⟩ := h.2.2 0 (by simp)
  exact ⟨ad, rfl, h2, h3, r1, r2⟩
set_option maxRecDepth 100000 in
theorem nextIn_c (A A' : Option Addr) (len len' cap cap' : Nat) (l m : List Int) (w : World) (hl : l.length ≤ 100000) (hm : m.length ≤ 100000) (hA : IAt w A len cap l) (hB : IAt w A' len' cap' m) :
    Calls Tryd.prog 91 #[.slice A len cap, .slice A' len' cap'] w fun e w' => e = .returned (.tuple #[.bool (inA l m), .bool (inB l m)]) ∧ Below w.heap.size w w' := by
  have hle := hA.1
  have hme := hB.1
  subst hle hme
  match l, m with
  | [], [] =>
    go_enter Tryd.func91, Tryd.ntmps91
    go_wp2_with fail
    go_ret2
    exact ⟨rfl, Below.refl _ _⟩
  | [], y :: m =>
    go_enter Tryd.func91, Tryd.ntmps91
    go_wp2_with fail
    go_ret2
    exact ⟨ret_two (by simp [inA]) (by simp [inB]; try omega), Below.refl _ _⟩
  | x :: l, [] =>
    go_enter Tryd.func91, Tryd.ntmps91
    go_wp2_with fail
    go_ret2
    exact ⟨ret_two (by simp [inA]; try omega) (by simp [inB]), Below.refl _ _⟩
  | x :: l, y :: m =>
    obtain ⟨ad, rfl, h2, h3, r1, r2⟩ := hA.head
    obtain ⟨ad', rfl, k2, k3, s1, s2⟩ := hB.head
    have cc := fun W => Tryd.cmp_Compare_int x y W
    obtain ⟨C, hC⟩ : ∃ C, Lib.compareInt x y = C := ⟨_, rfl⟩
    rw [hC] at cc
    have hx : inA (x :: l) (y :: m) = decide (C ≤ 0) ∧ inB (x :: l) (y :: m) = decide (C ≥ 0) := by
      subst hC
      show decide (x ≤ y) = decide (Lib.compareInt x y ≤ 0) ∧ decide (y ≤ x) = decide (Lib.compareInt x y ≥ 0)
      unfold Lib.compareInt
      rcases Int.lt_trichotomy x y with h | h | h
      · rw [if_pos h]; exact ⟨by rw [decide_eq_true (show x ≤ y by omega)]; rfl, by rw [decide_eq_false (show ¬ y ≤ x by omega)]; rfl⟩
      · rw [if_neg (by omega), if_neg (by omega)]; exact ⟨by rw [decide_eq_true (show x ≤ y by omega)]; rfl, by rw [decide_eq_true (show y ≤ x by omega)]; rfl⟩
      · rw [if_neg (by omega), if_pos h]; exact ⟨by rw [decide_eq_false (show ¬ x ≤ y by omega)]; rfl, by rw [decide_eq_true (show y ≤ x by omega)]; rfl⟩
    have t1 : ((l.length : Int) + 1 == 0) = false := by simpa using by omega
    have t2 : ((m.length : Int) + 1 == 0) = false := by simpa using by omega
    clear hC
    go_enter Tryd.func91, Tryd.ntmps91
    go_wp2_with fail
    go_quiet (first | (go_at_call 110; exact Calls.quiet_of_same ((cc _).mono fun _ _ ⟨a, b⟩ => ⟨a, b⟩)))
    go_wp2_with fail
    go_ret2
    exact ⟨ret_two hx.1.symm hx.2.symm, below_drewN (Below.refl _ _) _⟩
end Go.Proofs.YtdbifbgjbfnfmaaDoor
/-
  Layer 6 (post): the document's Or.
-/
namespace Go.Proofs.YtdbifbgjbfnfmaaDoor
open Go.RowKit Go.Deep
set_option linter.unusedVariables false
set_option linter.unusedSimpArgs false
/-- What stands from place k on. -/
theorem IAt.dropped {w : World} {A : Option Addr} {n cap : Nat} {l : List Int} (h : IAt w A n cap l) (k : Nat) (hk : k ≤ n) : IAt w (if cap = k then A else A.map (·.add k)) (n - k) (cap - k) (l.drop k) := by
  have h1 := h.1
  have h2 := h.2.1
  refine ⟨by rw [List.length_drop, h1], by omega, fun i hi => ?_⟩
  rw [List.length_drop] at hi
  obtain ⟨r, ad, rfl, b1, b2⟩ := h.2.2 (k + i) (by omega)
  rw [if_neg (show ¬ cap = k by omega)]
  have ea : (ad.add k).add i = ad.add (k + i) := by
    cases i with
    | zero => rfl
    | succ i => cases k with
      | zero => simp [Addr.add]
      | succ k => simp [Addr.add]; omega
  refine ⟨by simpa using r, _, rfl, ?_, ?_⟩
  · rw [ea]; exact b1
  · rw [ea]; simpa using b2
theorem IAt.cells {w : World} {ad : Addr} {n cap : Nat} {l : List Int} (h : IAt w (some ad) n cap l) : ∀ j u, (intC l)[j]? = some u → w.cell? (ad.add j) = some u := by
  intro j u hu
  have hj : j < l.length := by
    rcases Nat.lt_or_ge j l.length with hj | hj
    · exact hj
    · rw [List.getElem?_eq_none (by simpa [intC] using hj)] at hu; cases hu
  obtain ⟨_, ad', e, _, h3⟩ := h.2.2 j hj
  injection e with e
  subst e
  rw [h3]
  have : (intC l)[j]? = some (.int .i64 l[j]) := by simp [intC, hj]
  rw [this] at hu
  exact hu
/-- Integers behind integers: the source may be nil. -/
theorem app_ints {w : World} {ops : Array Oper} {rest : List Oper} {o : Oper} {a : Act} {Q : Exit → Act → World → Prop} (hgd : o.guard = none) (s x : Operand)
    (ho : o.op = .call { callee := .builtin .append, args := #[s, x], argTypes := #[40, 40] })
    {B : Nat} {v : Value} {l : List Int} (hs : a.eval s = v) (hN : NewI B v l w) (A : Option Addr) (m c : Nat) (L : List Int) (hx : a.eval x = .slice A m c) (hA : IAt w A m c L)
    (hlen : l.length + L.length ≤ 100000) (hB : B ≤ w.heap.size)
    (h : ∀ v' w', NewI B v' (l ++ L) w' → Below B w w' → wpList Tryd.prog ops Q rest (a.put o.dst v') w') :
    wpList Tryd.prog ops Q (o :: rest) a w := by
  obtain ⟨i0, hi0, hz0, hz1, hz2⟩ := info_parts int_info
  have hm := hA.1
  subst hm
  rcases A with _ | ad
  · have hL : L = [] := by
      cases L with
      | nil => rfl
      | cons y L => obtain ⟨_, ad, e, _⟩ := hA.2.2 0 (by simp); cases e
    subst hL
    have hrun : (Builtin.append_ #[40, 40] o.type #[v, .slice none 0 c]).run Tryd.prog w = .ok v w := by
      rcases hN.own.2 with ⟨rfl, _⟩ | ⟨g, cap, cur, rfl, _, _, hnc, _⟩
      · simp [Builtin.append_, run_underlying Tryd.underlying40, sizeOf, typeInfo, hi0, Builtin.lenOf, Builtin.firstCells]
      · simp [Builtin.append_, run_underlying Tryd.underlying40, sizeOf, typeInfo, hi0, Builtin.lenOf, Builtin.firstCells, hnc, storeCells]
    refine wpList_plain hgd fun K hK => ?_
    unfold Oper.wp execOp
    simp only [ho, resolve, invoke, builtin, Sem.run_bind, Sem.run_pure, Result.andThen_ok, List.map_toArray, List.map_cons, List.map_nil, hs, hx, hrun, List.length_nil]
    exact hK _ _ (h v w (by simpa using hN) (Below.refl _ _))
  · refine wpList_append_own_at _ hgd s x 40 ho B 3 i0 (.int .i64 0) 1 8 Tryd.underlying40 hi0 hz0 hz1 hz2 rfl (by decide) v l.length _ hs hN.own ad L.length c (intC L) hx (by simp [intC]) hA.cells ?_ (by unfold maxLen; omega) (by omega) hB ?_
    · intro u hu; obtain ⟨y, _, rfl⟩ := List.mem_map.1 hu; rfl
    · intro v' w' hown hg _ _
      refine h v' w' ⟨?_, ?_⟩ ?_
      · rw [intC_append, List.length_append]; exact hown
      · intro y hy
        rcases List.mem_append.1 hy with hy | hy
        · exact hN.rng y hy
        · obtain ⟨j, hj, rfl⟩ := List.getElem_of_mem hy
          exact (hA.2.2 j hj).1
      · exact (Below.refl B w).grown hg hB (fun k hk => (hN.own.lt k hk).1)
theorem or_nil (b : List Int) : mergeL fOr [] b = b := by
  induction b with
  | nil => rw [mergeL]
  | cons y b ih => rw [mergeL, ih]; rfl
theorem or_up {x y : Int} {a b : List Int} (h : y < x) : mergeL fOr (x :: a) (y :: b) = y :: mergeL fOr (x :: a) b := by
  rw [mergeL, if_neg (by omega), if_pos h]; rfl
theorem or_eq {x : Int} {a b : List Int} : mergeL fOr (x :: a) (x :: b) = x :: mergeL fOr a b := by
  rw [mergeL, if_neg (by omega), if_neg (by omega)]; rfl
theorem or_low {x y : Int} {a b : List Int} (h : x < y) : mergeL fOr (x :: a) (y :: b) = x :: mergeL fOr a (y :: b) := by
  rw [mergeL, if_pos h]; rfl
theorem or_end {x : Int} {a : List Int} : mergeL fOr (x :: a) [] = x :: mergeL fOr a [] := by
  rw [mergeL]; rfl
set_option maxRecDepth 100000 in
set_option maxHeartbeats 1000000 in
theorem refOr_c (A A' : Option Addr) (len len' cap cap' : Nat) (l m : List Int) (w : World) (hl : l.length ≤ 10000) (hm : m.length ≤ 10000) (hA : IAt w A len cap l) (hB : IAt w A' len' cap' m) :
    Calls Tryd.prog 24 #[.slice A len cap, .slice A' len' cap'] w fun e w' => (∃ v, e = .returned v ∧ NewI w.heap.size v (mergeL fOr l m) w') ∧ Below w.heap.size w w' := by
  have hle := hA.1
  have hme := hB.1
  subst hle hme
  have hml := len_merge fOr l m
  go_enter Tryd.func24, Tryd.ntmps24
  go_wp2_with fail
  go_loopw [5, 6, 7] (fun v d c wr => ∃ (i k : Nat) (out : List Int) (A1 : Option Addr) (cap1 : Nat), i ≤ l.length ∧ k ≤ m.length ∧ c = .int .i64 i ∧ d = .int .i64 k ∧ v = .slice A1 out.length cap1 ∧ NewI w.heap.size (.slice A1 out.length cap1) out wr ∧ Hid (out ++ mergeL fOr (l.drop i) (m.drop k) = mergeL fOr l m) ∧ Below w.heap.size w wr) (fun _ _ c _ => l.length - (intOf c).toNat)
  case atStart => exact ⟨0, 0, [], _, _, Nat.zero_le _, Nat.zero_le _, rfl, rfl, rfl, NewI.empty w _ (Nat.le_refl _), rfl, (Below.refl _ w).alloc (Nat.le_refl _) _⟩
  case round =>
    obtain ⟨i, k, out, A1, cap1, hi, hk, rfl, rfl, rfl, hN, HO, hb⟩ := hrel
    have hbs := hb.size
    by_cases hlt : i < l.length
    · obtain ⟨⟨r1, r2⟩, ad, rfl, h2, h3⟩ := hA.2.2 i hlt
      have hdr : l.drop i = l[i] :: l.drop (i + 1) := List.drop_eq_getElem_cons hlt
      obtain ⟨x, hx⟩ : ∃ x, l[i]'hlt = x := ⟨_, rfl⟩
      rw [hx] at r1 r2 h3 hdr
      have HC := Lib.hid (fun (W : World) (hW : Below w.heap.size w W) => (hW.cell (p := ad.add i) h2).trans h3)
      have HD := Lib.hid hdr
      have HML := Lib.hid hml
      clear hdr hx h3 hml
      obtain ⟨wo, rfl⟩ : ∃ wo : World, wo = wr := ⟨_, rfl⟩
      go_wp2_with fail
      go_loopw [5, 6] (fun v d wr => ∃ (k : Nat) (out : List Int) (A1 : Option Addr) (cap1 : Nat), k ≤ m.length ∧ d = .int .i64 k ∧ v = .slice A1 out.length cap1 ∧ NewI w.heap.size (.slice A1 out.length cap1) out wr ∧ Hid (out ++ mergeL fOr (l.drop i) (m.drop k) = mergeL fOr l m) ∧ Below w.heap.size w wr) (fun _ d _ => m.length - (intOf d).toNat)
      case atStart => exact ⟨k, out, A1, cap1, hk, rfl, rfl, hN, HO.out, hb⟩
      case round =>
        clear hN HO hb hbs hk
        obtain ⟨k, out, A1, cap1, hk, rfl, rfl, hN, HO, hb2⟩ := hrel
        have hb2s := hb2.size
        have g3 := HC.out _ hb2
        have hol : out.length ≤ 20000 := by
          have h1 := congrArg List.length HO.out
          rw [List.length_append] at h1
          have h2 := HML.out
          omega
        have HN := Lib.hid hN
        clear hN
        by_cases hkt : k < m.length
        · obtain ⟨⟨s1, s2⟩, ad', rfl, k2, k3⟩ := hB.2.2 k hkt
          have hdr : m.drop k = m[k] :: m.drop (k + 1) := List.drop_eq_getElem_cons hkt
          obtain ⟨y, hy⟩ : ∃ y, m[k]'hkt = y := ⟨_, rfl⟩
          rw [hy] at s1 s2 k3 hdr
          have k3 := (hb2.cell (p := ad'.add k) k2).trans k3
          have b1 : decide ((k : Int) < (m.length : Int)) = true := by simpa using hkt
          have HM := Lib.hid hdr
          clear hy hdr
          by_cases hq : y < x
          · have t1 : decide (y < x) = true := by simpa using hq
            have HE : Hid (mergeL fOr (l.drop i) (m.drop k) = [y] ++ mergeL fOr (l.drop i) (m.drop (k + 1))) := by show _ = _; rw [HM.out, HD.out]; exact or_up hq
            clear hq
            go_wp2_with fail
            go_quiet (fail)
            go_wp2_with (at_builtin; refine app_one rfl (.tmp 30) (.tmp 35) rfl rfl (HN.out.drewN _) y rfl rfl s1 s2 (by omega) hb2s ?c1)
            case c1 =>
              intro A3 cap3 w3 L HL hN3 hb3
              have hb4 := (below_drewN hb2 _).trans hb3
              have HN3 := Lib.hid hN3
              clear hN3 g3 k3
              go_wp2_with fail
              go_roundw
              case rel => exact ⟨k + 1, L, A3, cap3, by omega, by go_num, rfl, HN3.out, by show _ = _; rw [HL.out, List.append_assoc, ← HE.out]; exact HO.out, hb4⟩
              case measure => simp [intOf]; omega
          · have t1 : decide (y < x) = false := by simpa using hq
            by_cases hq2 : x = y
            · subst hq2
              have t2 : (x == x) = true := by simp
              have HE : Hid (mergeL fOr (l.drop i) (m.drop k) = [x] ++ mergeL fOr (l.drop (i + 1)) (m.drop (k + 1))) := by show _ = _; rw [HM.out, HD.out]; exact or_eq
              clear hq
              go_wp2_with fail
              go_quiet (fail)
              go_wp2_with fail
              go_quiet (fail)
              go_wp2_with (at_builtin; refine app_one rfl (.tmp 56) (.tmp 61) rfl rfl (HN.out.drewN _) x rfl rfl r1 r2 (by omega) hb2s ?c2)
              case c2 =>
                intro A3 cap3 w3 L HL hN3 hb3
                have hb4 := (below_drewN hb2 _).trans hb3
                have HN3 := Lib.hid hN3
                clear hN3 g3 k3
                go_wp2_with fail
                go_roundw
                case rel => exact ⟨i + 1, k + 1, L, A3, cap3, by omega, by omega, by go_num, by go_num, rfl, HN3.out, by show _ = _; rw [HL.out, List.append_assoc, ← HE.out]; exact HO.out, hb4⟩
                case measure => simp [intOf]; omega
            · have t2 : (y == x) = false := by simpa using fun h => hq2 h.symm
              have HE : Hid (mergeL fOr (l.drop i) (m.drop k) = [x] ++ mergeL fOr (l.drop (i + 1)) (m.drop k)) := by show _ = _; rw [HM.out, HD.out]; exact or_low (by omega)
              clear hq hq2
              go_wp2_with fail
              go_quiet (fail)
              go_wp2_with fail
              go_quiet (fail)
              go_wp2_with (at_builtin; refine app_one rfl (.tmp 56) (.tmp 61) rfl rfl (HN.out.drewN _) x rfl rfl r1 r2 (by omega) hb2s ?c2)
              case c2 =>
                intro A3 cap3 w3 L HL hN3 hb3
                have hb4 := (below_drewN hb2 _).trans hb3
                have HN3 := Lib.hid hN3
                clear hN3 g3 k3
                go_wp2_with fail
                go_roundw
                case rel => exact ⟨i + 1, k, L, A3, cap3, by omega, by omega, by go_num, rfl, rfl, HN3.out, by show _ = _; rw [HL.out, List.append_assoc, ← HE.out]; exact HO.out, hb4⟩
                case measure => simp [intOf]; omega
        · have b1 : decide ((k : Int) < (m.length : Int)) = false := by simpa using hkt
          have HE : Hid (mergeL fOr (l.drop i) (m.drop k) = [x] ++ mergeL fOr (l.drop (i + 1)) (m.drop k)) := by
            show _ = _
            rw [List.drop_of_length_le (show m.length ≤ k by omega), HD.out]; exact or_end
          clear b1
          go_wp2_with fail
          go_quiet (fail)
          go_wp2_with fail
          go_quiet (fail)
          go_wp2_with (at_builtin; refine app_one rfl (.tmp 56) (.tmp 61) rfl rfl (HN.out.drewN _) x rfl rfl r1 r2 (by omega) hb2s ?c2)
          case c2 =>
            intro A3 cap3 w3 L HL hN3 hb3
            have hb4 := (below_drewN hb2 _).trans hb3
            have HN3 := Lib.hid hN3
            clear hN3 g3
            go_wp2_with fail
            go_roundw
            case rel => exact ⟨i + 1, k, L, A3, cap3, by omega, by omega, by go_num, rfl, rfl, HN3.out, by show _ = _; rw [HL.out, List.append_assoc, ← HE.out]; exact HO.out, hb4⟩
            case measure => simp [intOf]; omega
    · obtain rfl : i = l.length := by omega
      have e : out ++ m.drop k = mergeL fOr l m := by
        have := HO.out
        rwa [List.drop_length, or_nil] at this
      have hol : out.length + (m.drop k).length ≤ 100000 := by
        have h1 := congrArg List.length e
        rw [List.length_append] at h1
        omega
      have hk2 : (0 : Int) ≤ (k : Int) := by omega
      have hcap : m.length ≤ cap' := hB.2.1
      have hD := (hB.below hb).dropped k hk
      obtain ⟨X, hX⟩ : ∃ X, (if cap' = k then A' else A'.map (·.add k)) = X := ⟨_, rfl⟩
      rw [hX] at hD
      have HE := Lib.hid e
      have HD := Lib.hid hD
      have HN := Lib.hid hN
      clear e hN hD hml
      go_wp2_with (at_builtin; refine app_ints rfl (.tmp 63) (.tmp 66) rfl rfl HN.out X (m.length - k) (cap' - k) (m.drop k) rfl HD.out hol hbs ?c3)
      case c3 =>
        intro v3 w3 hN3 hb3
        have HN3 := Lib.hid hN3
        clear hN3
        go_wp2_with fail
        go_ret
        exact ⟨⟨_, rfl, HE.out ▸ HN3.out⟩, hb.trans hb3⟩
end Go.Proofs.YtdbifbgjbfnfmaaDoor
