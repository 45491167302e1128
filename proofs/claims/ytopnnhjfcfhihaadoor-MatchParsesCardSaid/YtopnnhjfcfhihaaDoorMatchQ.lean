/-
  Layer 5 (match): what the program's quoteEnd, unquote and quoted return; all that was in memory stays.
-/
import Derived.Test.YtopnnhjfcfhihaaDoorMatchParse
import Derived.Test.YtopnnhjfcfhihaaDoorLabelW2
import Derived.Test.YtopnnhjfcfhihaaDoorMatchMem
namespace Go.Proofs.YtopnnhjfcfhihaaDoor
open Go.RowKit Go.Deep
attribute [local go_sem] str_size str_append str_toList str_get str_extract
set_option linter.unusedVariables false
set_option linter.unusedSimpArgs false
def endE (n : Nat) (o : Option (List UInt8 × List UInt8)) : Nat := match o with | some (_, b) => n - b.length | none => 0
theorem endE_is (s : List UInt8) : endL s = endE s.length (scan (s.drop 1)) := rfl
theorem endE_pre (n : Nat) (acc : List UInt8) (o : Option (List UInt8 × List UInt8)) : endE n (pre acc o) = endE n o := by cases o <;> rfl
set_option maxRecDepth 100000 in
set_option maxHeartbeats 1000000 in
theorem quoteEnd_c (s : List UInt8) (w : World) (hs : s.length ≤ 1048576) : Calls Tryd.prog 67 #[.string (str s)] w fun e w' => e = .returned (.int .i64 (endL s : Nat)) ∧ w = w' := by
  obtain ⟨R, hR⟩ : ∃ R, endL s = R := ⟨_, rfl⟩
  rw [hR]
  have HR : Hid (endE s.length (scan (s.drop 1)) = R) := hR
  clear hR
  go_enter Tryd.func67, Tryd.ntmps67
  go_wp2_with fail
  go_loopw [3] (fun c wr => ∃ i : Nat, i ≤ s.length + 1 ∧ c = .int .i64 i ∧ Hid (endE s.length (scan (s.drop i)) = R) ∧ w = wr) (fun c _ => s.length + 1 - (intOf c).toNat)
  case atStart => exact ⟨1, by omega, rfl, HR.out, rfl⟩
  case round =>
    obtain ⟨i, hi, rfl, HI, rfl⟩ := hrel
    by_cases hlt : i < s.length
    · have E34 := Lib.hid (fun h => pre_end (acc := []) hlt h)
      have EPL := Lib.hid (fun h1 h2 => pre_plain (acc := []) hlt h1 h2)
      have ECUT := Lib.hid (fun he h2 => pre_cut (s := s) (acc := []) (i := i) he h2)
      have EESC := Lib.hid (fun he h2 => pre_esc (s := s) (acc := []) (i := i) he h2)
      obtain ⟨x, hx⟩ : ∃ x, s[i]'hlt = x := ⟨_, rfl⟩
      have HX := Lib.hid hx
      have hxl : x.toNat < 256 := x.toNat_lt
      by_cases h1 : x.toNat = 34
      · have t1 : (((x.toNat : Nat) : Int) == 34) = true := by simp [h1]
        have e := congrArg (endE s.length) (E34.out (by rw [HX.out]; exact h1))
        rw [endE_pre, HI.out] at e
        have e2 : R = i + 1 := by rw [e]; show s.length - (s.drop (i + 1)).length = i + 1; rw [List.length_drop]; omega
        subst e2
        clear HI HR e
        go_wp2_with fail
        go_ret
        exact ⟨rfl, rfl⟩
      · have t1 : (((x.toNat : Nat) : Int) == 34) = false := by simp; omega
        by_cases h2 : x.toNat = 92
        · have t2 : (((x.toNat : Nat) : Int) == 92) = true := by simp [h2]
          by_cases hend : i + 1 = s.length
          · have e := congrArg (endE s.length) (ECUT.out hend (by rw [HX.out]; exact h2))
            rw [endE_pre, HI.out] at e
            have HE : Hid (endE s.length (scan (s.drop (i + 2))) = R) := by show _ = _; rw [List.drop_eq_nil_of_le (by omega), e]; rfl
            clear hend e
            go_wp2_with fail
            go_roundw
            case rel => exact ⟨i + 2, by omega, by go_num, HE.out, by first | rfl | trivial⟩
            case measure => simp [intOf]; omega
          · have hlt2 : i + 1 < s.length := by omega
            have e := congrArg (endE s.length) (EESC.out hlt2 (by rw [HX.out]; exact h2))
            rw [endE_pre, endE_pre, HI.out] at e
            have HE := Lib.hid e.symm
            clear e hend
            go_wp2_with fail
            go_roundw
            case rel => exact ⟨i + 2, by omega, by go_num, HE.out, by first | rfl | trivial⟩
            case measure => simp [intOf]; omega
        · have t2 : (((x.toNat : Nat) : Int) == 92) = false := by simp; omega
          have e := congrArg (endE s.length) (EPL.out (by rw [HX.out]; exact h1) (by rw [HX.out]; exact h2))
          rw [endE_pre, endE_pre, HI.out] at e
          have HE := Lib.hid e.symm
          clear e
          go_wp2_with fail
          go_roundw
          case rel => exact ⟨i + 1, by omega, by go_num, HE.out, by first | rfl | trivial⟩
          case measure => simp [intOf]; omega
    · have e := HI.out
      rw [List.drop_eq_nil_of_le (by omega)] at e
      have e2 : R = 0 := e.symm
      subst e2
      clear HI HR e
      go_wp2_with fail
      go_ret
      exact ⟨rfl, rfl⟩
theorem lat_head {w : World} {A : Option Addr} {n : Nat} {x : Lab} {r : List Lab} (h : LAt w A n (x :: r)) : ∃ ad, A = some ad ∧ ad.block < w.heap.size ∧ w.cell? ⟨ad.block, ad.off + 1, none⟩ = some (.string (str x.2)) := by
  obtain ⟨_, ad, e, h2, _, h4⟩ := h.2 0 (by simp)
  have ea : ad.add (0 * 2) = ad := by unfold Addr.add; exact if_pos (by decide)
  rw [ea] at h2 h4
  exact ⟨ad, e, h2, h4⟩
def unqV : Option (List UInt8) → Value
  | some v => .tuple #[.string (str v), .bool true]
  | none => .tuple #[.string (str []), .bool false]
theorem unqM_none {s : List UInt8} (h0 : ¬ s = quoteL []) (hP : parseL (123 :: 97 :: 61 :: (s ++ [125])) = none) : unqM s = none := by unfold unqM; rw [if_neg h0, hP]
theorem unqM_some {s : List UInt8} {x : Lab} {r : List Lab} (h0 : ¬ s = quoteL []) (hP : parseL (123 :: 97 :: 61 :: (s ++ [125])) = some (x :: r)) : unqM s = some x.2 := by unfold unqM; rw [if_neg h0, hP]
set_option maxRecDepth 100000 in
set_option maxHeartbeats 1000000 in
theorem munq_c (s : List UInt8) (w : World) (hs : s.length ≤ 16000) (m : Int) (hm : w.cell? ⟨0, 0, none⟩ = some (.int .i64 m)) (hm2 : 0 < w.heap.size) (hT : Lib.Utf8Tabs 1 2 w) :
    Calls Tryd.prog 68 #[.string (str s)] w fun e w' => e = .returned (unqV (unqM s)) ∧ Below w.heap.size w w' := by
  have cq := fun W => quote_c [] W (by simp)
  by_cases h0 : s = quoteL []
  · have e : unqM s = some [] := by unfold unqM; rw [if_pos h0]
    rw [e]
    have t1 : (s == quoteL []) = true := by simp [h0]
    obtain ⟨Q, hQ⟩ : ∃ Q, quoteL [] = Q := ⟨_, rfl⟩
    rw [hQ] at cq t1
    clear h0 e hQ
    go_enter Tryd.func68, Tryd.ntmps68
    go_wp2_with (go_at_call 44; refine (cq _).mono ?_; rintro e w1 ⟨rfl, hb1⟩; dsimp only)
    go_ret2
    exact ⟨rfl, hb1⟩
  · have t1 : (s == quoteL []) = false := by rw [beq_eq_false_iff_ne]; exact h0
    obtain ⟨Q, hQ⟩ : ∃ Q, quoteL [] = Q := ⟨_, rfl⟩
    rw [hQ] at cq t1
    have k1 : ¬ (9223372036854775807 < 3 + s.length) := by omega
    have k2 : ¬ (9223372036854775807 < 3 + s.length + 1) := by omega
    have k3 : ¬ (9223372036854775807 < s.length + 3) := by omega
    have k4 : ¬ (9223372036854775807 < s.length + 3 + 1) := by omega
    have hX : ({ data := #[123, 97, 61] } : ByteArray) ++ str s ++ { data := #[125] } = str (123 :: 97 :: 61 :: (s ++ [125])) := by
      show str [123, 97, 61] ++ str s ++ str [125] = _
      rw [str_append, str_append]; rfl
    have cp := fun W h h' h'' => parse_c (123 :: 97 :: 61 :: (s ++ [125])) W (by simp; omega) m h h' h''
    cases hP : parseL (123 :: 97 :: 61 :: (s ++ [125])) with
    | none =>
      rw [unqM_none h0 hP]
      rw [hP] at cp
      clear h0 hP hQ
      go_enter Tryd.func68, Tryd.ntmps68
      go_wp2_with (first | (go_at_call 44; refine (cq _).mono ?_; rintro e w1 ⟨rfl, hb1⟩; dsimp only) | (go_at_call 72; refine (cp _ ((hb1.cell (p := ⟨0, 0, none⟩) hm2).trans hm) (Nat.lt_of_lt_of_le hm2 hb1.size) (Utf8Tabs_below hT hb1)).mono ?_; rintro e w2 ⟨hpp, hb2⟩; obtain rfl : e = _ := hpp; dsimp only))
      go_ret2
      exact ⟨rfl, below2 hb1 hb2 hb1.size⟩
    | some l =>
      rw [hP] at cp
      obtain ⟨hok, hpr⟩ := parseL_of hP
      cases l with
      | nil =>
        have := congrArg List.length hpr
        simp [printL, printB] at this
      | cons x r =>
        rw [unqM_some h0 hP]
        obtain ⟨xn, xv⟩ := x
        have hlen : 0 < ((xn, xv) :: r).length := by simp
        clear h0 hP hQ hok hpr
        go_enter Tryd.func68, Tryd.ntmps68
        go_wp2_with (first | (go_at_call 44; refine (cq _).mono ?_; rintro e w1 ⟨rfl, hb1⟩; dsimp only) | (go_at_call 72; refine (cp _ ((hb1.cell (p := ⟨0, 0, none⟩) hm2).trans hm) (Nat.lt_of_lt_of_le hm2 hb1.size) (Utf8Tabs_below hT hb1)).mono ?_; rintro e w2 ⟨hpp, hb2⟩; obtain ⟨A, cap, rfl, hl, -⟩ := hpp; obtain ⟨ad, rfl, h2, h4⟩ := lat_head hl; dsimp only))
        go_ret2
        exact ⟨rfl, below2 hb1 hb2 hb1.size⟩
def strsC (l : List (List UInt8)) : List Value := l.map fun x => .string (str x)
theorem strsC_snoc (l : List (List UInt8)) (x : List UInt8) : strsC (l ++ [x]) = strsC l ++ [.string (str x)] := by simp [strsC]
theorem strsC_length (l : List (List UInt8)) : (strsC l).length = l.length := by simp [strsC]
/-- What a row of strings that the call owns is to others. -/
theorem own_strs {B : Nat} {n : Nat} {l : List (List UInt8)} {w : World} {A : Option Addr} {cap : Nat} (h : w.ownsRow B 9 1 (.slice A n cap) n (strsC l)) (hn : n = l.length) (hs : ∀ x ∈ l, x.length ≤ 9223372036854775807) : StrsAt w A n l := by
  refine ⟨hn, fun i hi => ⟨hs _ (List.getElem_mem hi), ?_⟩⟩
  rcases h.2 with ⟨e, h0⟩ | ⟨g, c, cur, e, hg, hb, _⟩
  · omega
  · injection e with e1 e2 e3
    subst e1
    have h0 := h.cellAt i (by omega)
    unfold strsC at h0
    rw [List.getElem?_map, List.getElem?_eq_getElem hi] at h0
    have ea : (⟨g, 0, none⟩ : Addr).add i = ⟨g, i, none⟩ := by
      unfold Addr.add
      split <;> simp_all
    refine ⟨_, rfl, ?_, ?_⟩
    · rw [ea]; exact lt_of_block hb
    · rw [ea]; exact h0
/-- What quoted answers. -/
def QuotedM (B : Nat) (s : List UInt8) (e : Ending) (w' : World) : Prop :=
  (e = .returned (.tuple #[.slice none 0 0, .string (str []), .bool false]) ∧ ∀ vs t, okQ vs t → joinQ vs ++ t ≠ s) ∨
  ∃ g cap vals next, e = .returned (.tuple #[.slice (some ⟨g, 0, none⟩) vals.length cap, .string (str next), .bool true]) ∧ w'.ownsRow B 9 1 (.slice (some ⟨g, 0, none⟩) vals.length cap) vals.length (strsC vals) ∧ vals ≠ [] ∧
    vals.length ≤ s.length ∧ next.length ≤ s.length ∧ (∀ v ∈ vals, valueL v = true) ∧ ∀ vs t, okQ vs t → joinQ vs ++ t = s → vs = vals ∧ t = next
theorem endL_pos {s v : List UInt8} (h : unqM (s.take (endL s)) = some v) : 1 ≤ endL s := by
  rcases Nat.eq_zero_or_pos (endL s) with h0 | h0
  · rw [h0, List.take_zero] at h
    unfold unqM at h
    rw [if_neg (by simp [quoteL])] at h
    cases hp : parseL (123 :: 97 :: 61 :: ([] ++ [125])) with
    | none => rw [hp] at h; cases h
    | some l =>
      obtain ⟨hok, hpr⟩ := parseL_of hp
      cases l with
      | nil => have := congrArg List.length hpr; simp [printL, printB] at this
      | cons x r =>
        have := congrArg List.length hpr
        have hq : 2 ≤ (quoteL x.2).length := by simp [quoteL]
        have hn := nameL_ne ((okL_mem hok x (by simp)).1)
        have hn1 : 1 ≤ x.1.length := List.length_pos_iff.2 hn
        simp [printL, printB, partL] at this
        omega
  · exact h0
set_option maxRecDepth 100000 in
set_option maxHeartbeats 2000000 in
theorem quoted_c (s : List UInt8) (w : World) (hs : s.length ≤ 16000) (m : Int) (hm : w.cell? ⟨0, 0, none⟩ = some (.int .i64 m)) (hm2 : 0 < w.heap.size) (hT : Lib.Utf8Tabs 1 2 w) :
    Calls Tryd.prog 60 #[.string (str s)] w fun e w' => QuotedM w.heap.size s e w' ∧ Below w.heap.size w w' := by
  obtain ⟨i0, hi0, hz0, hz1, hz2⟩ := info_parts str_info
  go_enter Tryd.func60, Tryd.ntmps60
  go_wp2_with fail
  go_loopw [0, 5] (fun a v wr => ∃ (rest : List UInt8) (acc : List (List UInt8)), a = .string (str rest) ∧ acc.length + rest.length ≤ s.length ∧ wr.ownsRow w.heap.size 9 1 v acc.length (strsC acc) ∧ Hid ((∀ x ∈ acc, valueL x = true) ∧ GoesQ s acc rest) ∧ Below w.heap.size w wr) (fun a _ _ => match a with | .string b => b.size | _ => 0)
  case atStart => exact ⟨s, [], rfl, by simp, ⟨rfl, .inl ⟨rfl, rfl⟩⟩, ⟨by simp, GoesQ.start s⟩, Below.refl _ _⟩
  case round =>
    obtain ⟨rest, acc, rfl, hrl, hown, HG, hb⟩ := hrel
    obtain ⟨A, cap, rfl⟩ := row_slice hown
    have hsz := hb.size
    have hlow := Lib.hid (ownLow hown)
    have hmr : wr.cell? ⟨0, 0, none⟩ = some (.int .i64 m) := (hb.cell (p := ⟨0, 0, none⟩) hm2).trans hm
    have hmr2 := Nat.lt_of_lt_of_le hm2 hsz
    have hTr := Utf8Tabs_below hT hb
    have ce := fun W => quoteEnd_c rest W (by omega)
    have hel := endL_le rest
    have hbad := fun h => HG.out.2.bad h
    have hlast := fun u h h' => HG.out.2.last (u := u) h h'
    have hstep := fun u h h' => HG.out.2.step (u := u) h h'
    have hpos := fun v h => endL_pos (s := rest) (v := v) h
    obtain ⟨E, hE⟩ : ∃ E, endL rest = E := ⟨_, rfl⟩
    rw [hE] at ce hel hbad hlast hstep hpos
    clear hE
    have cu := munq_c (rest.take E) wr (by rw [List.length_take]; omega) m hmr hmr2 hTr
    have hval := fun v (h : unqM (rest.take E) = some v) => unqM_value h
    cases hU : unqM (rest.take E) with
    | none =>
      rw [hU] at cu
      have HZ : Hid (∀ w', QuotedM w.heap.size s (.returned (.tuple #[.slice none 0 0, .string (str []), .bool false])) w') := fun w' => .inl ⟨rfl, hbad hU⟩
      have CU := Lib.hid cu
      clear hbad hlast hstep hpos hU hval hown cu
      go_wp2_with (first | (go_at_call 67; refine (ce _).mono ?_; rintro e w1 ⟨rfl, rfl⟩; dsimp only) | (go_at_call 68; refine CU.out.mono ?_; rintro e w2 ⟨rfl, hb2⟩; dsimp only [unqV]))
      go_ret3
      exact ⟨HZ.out _, below2 hb hb2 hsz⟩
    | some u =>
      rw [hU] at cu
      have h1 := hpos u hU
      have hX : rest.drop E = rest.drop E := rfl
      have cc := fun W => Tryd.strings_CutPrefix (str (rest.drop E)) (str [124]) W
      rw [str_data, str_data] at cc
      have htk : (rest.drop E).take (rest.length - E) = rest.drop E := List.take_of_length_le (by rw [List.length_drop]; omega)
      have hdl : (rest.drop E).length = rest.length - E := List.length_drop
      have hvu := hval u hU
      have HV : Hid (∀ x ∈ acc ++ [u], valueL x = true) := by
        intro x hx
        rcases List.mem_append.1 hx with hx | hx
        · exact HG.out.1 x hx
        · simp at hx; rw [hx]; exact hvu
      have CU := Lib.hid cu
      have HO := Lib.hid hown
      cases hP : Lib.hasPrefix (rest.drop E) [124] with
      | false =>
        have htp : Lib.trimPrefix (rest.drop E) [124] = rest.drop E := by unfold Lib.trimPrefix; rw [if_neg (by rw [hP]; simp)]
        rw [hP, htp] at cc
        have HL := Lib.hid (hlast u hU hP)
        obtain ⟨X, hX⟩ : ∃ X, rest.drop E = X := ⟨_, rfl⟩
        have HX := Lib.hid hX
        rw [hX] at cc HL htk hdl
        clear hbad hlast hstep hpos hU hval hown cu hP htp
        go_wp2_with (first | (go_at_call 67; refine (ce _).mono ?_; rintro e w1 ⟨rfl, rfl⟩; dsimp only) | (go_at_call 68; refine CU.out.mono ?_; rintro e w2 ⟨rfl, hb2⟩; have hb22 := below2 hb hb2 hsz; have HO2 := Lib.hid (((Keeps.below (F := []) hb2).row HO.out (by simp)).alloc (.cells #[.string (str u)] 9)); dsimp only [unqV]) | (at_builtin; refine wpList_append_lies _ rfl (.tmp 22) (.tmp 24) 28 rfl w.heap.size 9 i0 (.string (str [])) 1 16 Tryd.underlying28 hi0 hz0 hz1 hz2 rfl (by decide) _ acc.length _ rfl HO2.out ⟨w2.heap.size, 0, none⟩ 1 1 [.string (str u)] rfl rfl (cell_one_new _ _ _) (by intro u hu; simp at hu; subst hu; rfl) (by decide) (by unfold maxLen; omega) (by omega) (by have := hb22.size; simp; omega) _ rfl ?c6))
        case c6 =>
          intro g1 cap1 w4 hown1 hg1 _ hl1
          have hb4 : Below w.heap.size w w4 := (hb22.alloc hb22.size _).grown hg1 (by have := hb22.size; simp; omega) hlow.out
          rw [← strsC_snoc] at hown1
          have HW := Lib.hid (And.intro hown1 hb4)
          clear hown1 hg1 hb4
          go_wp2_with (go_at_call 69; refine (cc _).mono ?_; rintro e w5 ⟨rfl, rfl⟩; dsimp only)
          go_ret3
          have hlen : (acc ++ [u]).length = acc.length + 1 := by simp
          refine ⟨.inr ⟨g1, cap1, acc ++ [u], X, by rw [hlen]; rfl, by rw [hlen]; exact HW.out.1, by simp, by rw [hlen]; omega, by omega, HV.out, HL.out⟩, HW.out.2⟩
      | true =>
        have HS := Lib.hid (hstep u hU hP)
        have htd := trimP_drop hP
        rw [hP] at cc
        obtain ⟨Y, hY⟩ : ∃ Y, Lib.trimPrefix (rest.drop E) [124] = Y := ⟨_, rfl⟩
        rw [hY] at cc HS htd
        obtain ⟨X, hX⟩ : ∃ X, rest.drop E = X := ⟨_, rfl⟩
        rw [hX] at cc htk hdl htd
        clear hbad hlast hstep hpos hU hval hown cu hP hY
        go_wp2_with (first | (go_at_call 67; refine (ce _).mono ?_; rintro e w1 ⟨rfl, rfl⟩; dsimp only) | (go_at_call 68; refine CU.out.mono ?_; rintro e w2 ⟨rfl, hb2⟩; have hb22 := below2 hb hb2 hsz; have HO2 := Lib.hid (((Keeps.below (F := []) hb2).row HO.out (by simp)).alloc (.cells #[.string (str u)] 9)); dsimp only [unqV]) | (at_builtin; refine wpList_append_lies _ rfl (.tmp 22) (.tmp 24) 28 rfl w.heap.size 9 i0 (.string (str [])) 1 16 Tryd.underlying28 hi0 hz0 hz1 hz2 rfl (by decide) _ acc.length _ rfl HO2.out ⟨w2.heap.size, 0, none⟩ 1 1 [.string (str u)] rfl rfl (cell_one_new _ _ _) (by intro u hu; simp at hu; subst hu; rfl) (by decide) (by unfold maxLen; omega) (by omega) (by have := hb22.size; simp; omega) _ rfl ?c6))
        case c6 =>
          intro g1 cap1 w4 hown1 hg1 _ hl1
          have hb4 : Below w.heap.size w w4 := (hb22.alloc hb22.size _).grown hg1 (by have := hb22.size; simp; omega) hlow.out
          rw [← strsC_snoc] at hown1
          have HW := Lib.hid (And.intro hown1 hb4)
          clear hown1 hg1 hb4
          go_wp2_with (go_at_call 69; refine (cc _).mono ?_; rintro e w5 ⟨rfl, rfl⟩; dsimp only)
          go_roundw
          case rel =>
            have hlen : (acc ++ [u]).length = acc.length + 1 := by simp
            exact ⟨Y, acc ++ [u], rfl, by rw [hlen]; omega, by rw [hlen]; exact HW.out.1, ⟨HV.out, HS.out⟩, HW.out.2⟩
          case measure =>
            show (str Y).size < _
            simp only [str_size]
            omega
end Go.Proofs.YtopnnhjfcfhihaaDoor
