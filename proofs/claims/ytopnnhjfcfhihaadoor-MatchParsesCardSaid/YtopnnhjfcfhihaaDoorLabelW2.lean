/-
  Layer 4 (label): what the program's guess and Parse return; all that was in memory stays.
-/
import Derived.Test.YtopnnhjfcfhihaaDoorLabelW
namespace Go.Proofs.YtopnnhjfcfhihaaDoor
open Go.RowKit Go.Deep
attribute [local go_sem] str_size str_append str_toList str_get str_extract
set_option linter.unusedVariables false
set_option linter.unusedSimpArgs false
/-- What guess answers: there is none, or these alone can be meant. -/
def Guess (s : List UInt8) (e : Ending) (w' : World) : Prop :=
  (e = .returned (.tuple #[.slice none 0 0, .bool false]) ∧ ∀ L, okL L = true → printL L ≠ s) ∨
  ∃ A cap l, e = .returned (.tuple #[.slice A l.length cap, .bool true]) ∧ LAt w' A l.length l ∧ l.length ≤ 8 ∧ (∀ x ∈ l, x.1.length ≤ s.length ∧ x.2.length ≤ s.length) ∧ ∀ L, okL L = true → printL L = s → L = l
/-- A row of labels of the call's own that may be nil. -/
theorem lrow_nil (w : World) (B : Nat) : w.ownsRow B 40 2 (.slice none 0 0) 0 (labC []) := ⟨rfl, .inl ⟨rfl, rfl⟩⟩
theorem tpre_c (a b : List UInt8) (w : World) : Calls Tryd.prog 49 #[.string (str a), .string (str b)] w fun e w' => e = .returned (.string (str (Lib.trimPrefix a b))) ∧ w = w' :=
  (Tryd.strings_TrimPrefix (str a) (str b) w).mono fun _ _ ⟨h, k⟩ => ⟨by rw [h, str_data, str_data]; rfl, k.symm⟩
theorem tsuf_c (a b : List UInt8) (w : World) (ha : a.length ≤ 1048576) : Calls Tryd.prog 48 #[.string (str a), .string (str b)] w fun e w' => e = .returned (.string (str (Lib.trimSuffix a b))) ∧ w = w' :=
  (Tryd.strings_TrimSuffix (str a) (str b) w (by rw [str_size]; omega)).mono fun _ _ ⟨h, k⟩ => ⟨by rw [h, str_data, str_data]; rfl, k.symm⟩
theorem cut_c (a : List UInt8) (m : Int) (w : World) (ha : a.length ≤ 1048576) (hm : w.cell? ⟨0, 0, none⟩ = some (.int .i64 m)) (x y : List UInt8) (b : Bool) (h : Lib.cut a [61] = (x, y, b)) :
    Calls Tryd.prog 59 #[.string (str a), .string (str [61])] w fun e w' => e = .returned (.tuple #[.string (str x), .string (str y), .bool b]) ∧ ∃ n, w' = w.drewN n :=
  (Tryd.strings_Cut (str a) (str [61]) m w (by rw [str_size]; omega) hm).mono fun _ _ ⟨k, n⟩ => ⟨by rw [k, str_data, str_data, h]; rfl, n⟩
set_option maxHeartbeats 2000000 in
theorem guess_c (s : List UInt8) (w : World) (hs : s.length ≤ 16384) (m : Int) (hm : w.cell? ⟨0, 0, none⟩ = some (.int .i64 m)) (hm2 : 0 < w.heap.size) :
    Calls Tryd.prog 78 #[.string (str s)] w fun e w' => Guess s e w' ∧ Below w.heap.size w w' := by
  obtain ⟨i0, hi0, hz0, hz1, hz2⟩ := info_parts lab_info
  have hg0 := Goes.start s
  have tp0 := fun W => tpre_c s [123] W
  have tl0 := trimP_len s [123]
  obtain ⟨P1, hP1⟩ : ∃ P, Lib.trimPrefix s [123] = P := ⟨_, rfl⟩
  rw [hP1] at tp0 tl0 hg0
  have ts0 := fun W => tsuf_c P1 [125] W (by omega)
  have tl1 := trimS_len P1 [125]
  obtain ⟨P2, hP2⟩ : ∃ P, Lib.trimSuffix P1 [125] = P := ⟨_, rfl⟩
  rw [hP2] at ts0 tl1 hg0
  have HG0 := Lib.hid hg0
  clear hg0 hP1 hP2
  go_enter Tryd.func78, Tryd.ntmps78
  go_wp2_with (first | (go_at_call 49; refine (tp0 _).mono ?_; rintro e w1 ⟨rfl, rfl⟩) | (go_at_call 48; refine (ts0 _).mono ?_; rintro e w1 ⟨rfl, rfl⟩))
  clear tp0 ts0
  go_loopw [4, 5] (fun a v wr => ∃ (rest : List UInt8) (acc : List Lab), a = .string (str rest) ∧ rest.length ≤ s.length ∧ acc.length ≤ 8 ∧ wr.ownsRow w.heap.size 40 2 v acc.length (labC acc) ∧ (∀ x ∈ acc, x.1.length ≤ s.length ∧ x.2.length ≤ s.length) ∧ Hid (Goes s acc rest) ∧ Below w.heap.size w wr) (fun a _ _ => match a with | .string b => b.size | _ => 0)
  case atStart => exact ⟨P2, [], rfl, by omega, by simp, lrow_nil _ _, by simp, HG0.out, Below.refl _ _⟩
  case round =>
    obtain ⟨rest, acc, rfl, hrl, hal, hown, hsm, HG, hb⟩ := hrel
    obtain ⟨A, cap, rfl⟩ := row_slice hown
    have hsz := hb.size
    have hlow := Lib.hid (ownLow hown)
    have hmr : wr.cell? ⟨0, 0, none⟩ = some (.int .i64 m) := (hb.cell (p := ⟨0, 0, none⟩) hm2).trans hm
    by_cases hr0 : rest = []
    · subst hr0
      have hd := Goes.done HG.out
      have hl := own_lat (v := .slice none 0 0) hown rfl (fun x hx => by have := hsm x hx; omega)
      have HZ : Hid (Guess s (.returned (.tuple #[.slice A acc.length cap, .bool true])) wr) := .inr ⟨A, cap, acc, rfl, hl, hal, hsm, hd⟩
      clear hd hl hown hsm
      go_wp2_with fail
      go_ret2
      exact ⟨HZ.out, hb⟩
    · have hre : rest.isEmpty = false := by cases rest with | nil => exact absurd rfl hr0 | cons c r => rfl
      have hce := cut_E rest
      cases hc : cutE rest with
      | none =>
        rw [hc] at hce
        have cc := fun W h => cut_c rest m W (by omega) h _ _ _ hce
        have hno := Goes.noCut HG.out hr0 hc
        have HZ : Hid (∀ w', Guess s (.returned (.tuple #[.slice none 0 0, .bool false])) w') := fun w' => .inl ⟨rfl, hno⟩
        clear hno hown hsm
        go_wp2_with (go_at_call 59; refine (cc _ hmr).mono ?_; rintro e w1 ⟨rfl, ⟨nq, rfl⟩⟩)
        go_ret2
        exact ⟨HZ.out _, below_drewN hb _⟩
      | some x =>
      obtain ⟨n, bh⟩ := x
      rw [hc] at hce
      have cc := fun W h => cut_c rest m W (by omega) h _ _ _ hce
      have hcl := cutE_len hc
      by_cases h8 : acc.length = 8
      · have hno := Goes.full HG.out hr0 h8
        have HZ : Hid (∀ w', Guess s (.returned (.tuple #[.slice none 0 0, .bool false])) w') := fun w' => .inl ⟨rfl, hno⟩
        have t8 : (((acc.length : Nat) : Int) == 8) = true := by simp [h8]
        clear hno hown hsm h8
        go_wp2_with (go_at_call 59; refine (cc _ hmr).mono ?_; rintro e w1 ⟨rfl, ⟨nq, rfl⟩⟩)
        go_ret2
        exact ⟨HZ.out _, below_drewN hb _⟩
      have t8 : (((acc.length : Nat) : Int) == 8) = false := by rw [beq_eq_false_iff_ne]; omega
      have hal7 : acc.length < 8 := by omega
      have cu := fun W => unquote_c bh W (by omega)
      unfold unqL at cu
      cases hsc : scan (bh.drop 1) with
      | none =>
        rw [hsc] at cu
        have hno := Goes.noScan HG.out hr0 hc hsc
        have HZ : Hid (∀ w', Guess s (.returned (.tuple #[.slice none 0 0, .bool false])) w') := fun w' => .inl ⟨rfl, hno⟩
        clear hno hown hsm h8
        go_wp2_with (first | (go_at_call 59; refine (cc _ hmr).mono ?_; rintro e w1 ⟨rfl, ⟨nq, rfl⟩⟩) | (go_at_call 82; refine (cu _).mono ?_; rintro e w2 ⟨rfl, hb2⟩))
        go_ret2
        exact ⟨HZ.out _, (below_drewN hb nq).trans (hb2.mono hsz)⟩
      | some x =>
        obtain ⟨v, q⟩ := x
        rw [hsc] at cu
        have hgo := Goes.step HG.out hr0 hc hsc
        have hsl := scan_len _ _ _ _ (Nat.le_refl _) hsc
        rw [List.length_drop] at hsl
        have hHG := Lib.hid hgo
        have ck := fun W => lclone_c n W (by omega)
        have tp := fun W => tpre_c q [44] W
        have tl := trimP_len q [44]
        obtain ⟨rest', hrest⟩ : ∃ P, Lib.trimPrefix q [44] = P := ⟨_, rfl⟩
        rw [hrest] at tp tl hHG
        have HO := Lib.hid hown
        have HSM : Hid (∀ x ∈ acc ++ [(n, v)], x.1.length ≤ s.length ∧ x.2.length ≤ s.length) := by
          intro x hx
          rcases List.mem_append.1 hx with hx | hx
          · exact hsm x hx
          · simp at hx; subst hx; constructor <;> simp only <;> omega
        clear hgo hown hsm h8 hrest hc hsc
        go_wp2_with (go_at_call 59; refine (cc _ hmr).mono ?_; rintro e w1 ⟨rfl, ⟨nq, rfl⟩⟩)
        refine (cu _).mono ?_
        rintro e w2 ⟨rfl, hb2⟩
        go_wp2_with fail
        refine (ck _).mono ?_
        rintro e w3 ⟨rfl, hb3⟩
        have hO3 := (Keeps.below (F := []) hb3).row ((Keeps.below (F := []) hb2).row (show (wr.drewN nq).ownsRow _ _ _ _ _ _ from HO.out) (by simp)) (by simp)
        have hs2 : wr.heap.size ≤ w2.heap.size := hb2.size
        have hs3 := hb3.size
        have hB3 : Below w.heap.size w w3 := ((below_drewN hb nq).trans (hb2.mono hsz)).trans (hb3.mono (by omega))
        have HO3 := Lib.hid (hO3.alloc (.cells #[.string (str n), .string (str v)] 40))
        have hB3s := hB3.size
        clear hO3 hb2 hb3 cc cu ck
        go_wp2_with (at_builtin; refine wpList_append_lies _ rfl (.tmp 36) (.tmp 41) 23 rfl w.heap.size 40 i0 (.agg #[.string (str []), .string (str [])]) 2 32 Tryd.underlying23 hi0 hz0 hz1 hz2 rfl (by decide) _ acc.length _ rfl HO3.out ⟨w3.heap.size, 0, none⟩ 1 1 [.string (str n), .string (str v)] rfl rfl ?c1 ?c2 (by decide) ?c3 ?c4 ?c5 _ rfl ?c6)
        case c1 => exact cells_two_new _ _ _ _
        case c2 => intro u hu; simp at hu; rcases hu with rfl | rfl <;> rfl
        case c3 => unfold maxLen; omega
        case c4 => omega
        case c5 => simp; omega
        case c6 =>
          intro g1 cap1 w4 hown1 hg1 _ hl1
          have hb4 : Below w.heap.size w w4 := (hB3.alloc hB3.size _).grown hg1 (by have := hB3.size; simp; omega) hlow.out
          have HO4 := Lib.hid hown1
          clear hown1 hg1
          go_wp2_with (go_at_call 49; refine (tp _).mono ?_; rintro e w5 ⟨rfl, rfl⟩)
          go_roundw
          case rel => exact ⟨rest', acc ++ [(n, v)], rfl, by omega, by simp; omega, by rw [List.length_append, labC_append]; exact HO4.out, HSM.out, hHG.out, hb4⟩
          case measure => simp only [str_size]; omega
/-- What Parse answers. -/
def Parsed : Option (List Lab) → Ending → World → Prop
  | none, e, _ => e = .returned (.tuple #[.slice none 0 0, .int .i64 11])
  | some l, e, w' => ∃ A cap, e = .returned (.tuple #[.slice A l.length cap, .int .i64 0]) ∧ LAt w' A l.length l ∧ l.length ≤ 8
set_option maxHeartbeats 1000000 in
theorem parse_c (s : List UInt8) (w : World) (hs : s.length ≤ 16384) (m : Int) (hm : w.cell? ⟨0, 0, none⟩ = some (.int .i64 m)) (hm2 : 0 < w.heap.size) (hT : Lib.Utf8Tabs 1 2 w) :
    Calls Tryd.prog 72 #[.string (str s)] w fun e w' => Parsed (parseL s) e w' ∧ Below w.heap.size w w' := by
  obtain ⟨R, hR⟩ : ∃ R, parseL s = R := ⟨_, rfl⟩
  rw [hR]
  have HR := Lib.hid hR
  clear hR
  go_enter Tryd.func72, Tryd.ntmps72
  go_wp2_with fail
  refine (guess_c s _ hs m hm hm2).mono ?_
  rintro e w1 ⟨hG, hb1⟩
  rcases hG with ⟨rfl, hno⟩ | ⟨A, cap, l, rfl, hl, hl8, hsm, hun⟩
  · have e : parseL s = none := parseL_none hno
    rw [HR.out] at e
    subst e
    clear hno
    go_wp2_with fail
    go_ret2
    exact ⟨rfl, hb1⟩
  · have cp := fun W h1 h2 => print_c A l.length cap l W (by omega) h1 (fun x hx => by have := hsm x hx; omega) h2
    have hT1 := Utf8Tabs_below hT hb1
    have x0 : eOf true = 0 := rfl
    have x1 : eOf false = 40 := rfl
    have HL := Lib.hid hl
    cases hO : okL l with
    | false =>
      have e : parseL s = none := parseL_none (fun L h1 h2 => by
        have := hun L h1 h2
        subst this
        rw [hO] at h1; cases h1)
      rw [HR.out] at e
      subst e
      rw [hO, x1] at cp
      clear hun hsm
      go_wp2_with (go_at_call 79; refine (cp _ hl hT1).mono ?_; rintro e w2 ⟨rfl, hb2⟩)
      go_ret2
      exact ⟨rfl, below2 hb1 hb2 hb1.size⟩
    | true =>
      rw [hO, x0, if_pos rfl] at cp
      by_cases hp : printL l = s
      · have e := parseL_some hO hp
        rw [HR.out] at e
        subst e
        rw [hp] at cp
        have tn : (s != s) = false := by simp
        clear hun hsm
        go_wp2_with (go_at_call 79; refine (cp _ hl hT1).mono ?_; rintro e w2 ⟨rfl, hb2⟩)
        go_ret2
        exact ⟨⟨A, cap, rfl, HL.out.below hb2, hl8⟩, below2 hb1 hb2 hb1.size⟩
      · have e : parseL s = none := parseL_none (fun L h1 h2 => by
          have := hun L h1 h2
          subst this
          exact hp h2)
        rw [HR.out] at e
        subst e
        have tn : (printL l == s) = false := by rw [beq_eq_false_iff_ne]; exact hp
        obtain ⟨Q, hQ⟩ : ∃ Q, printL l = Q := ⟨_, rfl⟩
        rw [hQ] at cp tn
        clear hun hsm hp hQ
        go_wp2_with (go_at_call 79; refine (cp _ hl hT1).mono ?_; rintro e w2 ⟨rfl, hb2⟩)
        go_ret2
        exact ⟨rfl, below2 hb1 hb2 hb1.size⟩
end Go.Proofs.YtopnnhjfcfhihaaDoor
