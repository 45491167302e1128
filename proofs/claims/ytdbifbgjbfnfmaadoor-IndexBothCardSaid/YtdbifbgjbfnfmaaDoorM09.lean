/-
  Texts of the same seat, one behind the other (merged; each says at its head what it is).
-/
import Derived.Test.YtdbifbgjbfnfmaaDoorM08
import Derived.Test.YtdbifbgjbfnfmaaDoorM01
import Derived.Test.YtdbifbgjbfnfmaaDoorM04
import Derived.Test.YtdbifbgjbfnfmaaDoorM05
/-
  Layer 4 (label): what the program's guess and Parse return; all that was in memory stays.
-/
namespace Go.Proofs.YtdbifbgjbfnfmaaDoor
open Go.RowKit Go.Deep
attribute [local go_sem] str_size str_append str_toList str_get str_extract
set_option linter.unusedVariables false
set_option linter.unusedSimpArgs false
/-- What guess answers: there is none, or these alone can be meant. -/
def Guess (s : List UInt8) (e : Ending) (w' : World) : Prop :=
  (e = .returned (.tuple #[.slice none 0 0, .bool false]) ∧ ∀ L, okL L = true → printL L ≠ s) ∨
  ∃ A cap l, e = .returned (.tuple #[.slice A l.length cap, .bool true]) ∧ LAt w' A l.length l ∧ l.length ≤ 8 ∧ (∀ x ∈ l, x.1.length ≤ s.length ∧ x.2.length ≤ s.length) ∧ ∀ L, okL L = true → printL L = s → L = l
/-- A row of labels of the call's own that may be nil. -/
theorem lrow_nil (w : World) (B : Nat) : w.ownsRow B 60 2 (.slice none 0 0) 0 (labC []) := ⟨rfl, .inl ⟨rfl, rfl⟩⟩
theorem tpre_c (a b : List UInt8) (w : World) : Calls Tryd.prog 117 #[.string (str a), .string (str b)] w fun e w' => e = .returned (.string (str (Lib.trimPrefix a b))) ∧ w = w' :=
  (Tryd.strings_TrimPrefix (str a) (str b) w).mono fun _ _ ⟨h, k⟩ => ⟨by rw [h, str_data, str_data]; rfl, k.symm⟩
theorem tsuf_c (a b : List UInt8) (w : World) (ha : a.length ≤ 1048576) : Calls Tryd.prog 116 #[.string (str a), .string (str b)] w fun e w' => e = .returned (.string (str (Lib.trimSuffix a b))) ∧ w = w' :=
  (Tryd.strings_TrimSuffix (str a) (str b) w (by rw [str_size]; omega)).mono fun _ _ ⟨h, k⟩ => ⟨by rw [h, str_data, str_data]; rfl, k.symm⟩
theorem cut_c (a : List UInt8) (m : Int) (w : World) (ha : a.length ≤ 1048576) (hm : w.cell? ⟨0, 0, none⟩ = some (.int .i64 m)) (x y : List UInt8) (b : Bool) (h : Lib.cut a [61] = (x, y, b)) :
    Calls Tryd.prog 118 #[.string (str a), .string (str [61])] w fun e w' => e = .returned (.tuple #[.string (str x), .string (str y), .bool b]) ∧ ∃ n, w' = w.drewN n :=
  (Tryd.strings_Cut (str a) (str [61]) m w (by rw [str_size]; omega) hm).mono fun _ _ ⟨k, n⟩ => ⟨by rw [k, str_data, str_data, h]; rfl, n⟩
set_option maxHeartbeats 2000000 in
theorem guess_c (s : List UInt8) (w : World) (hs : s.length ≤ 16384) (m : Int) (hm : w.cell? ⟨0, 0, none⟩ = some (.int .i64 m)) (hm2 : 0 < w.heap.size) :
    Calls Tryd.prog 103 #[.string (str s)] w fun e w' => Guess s e w' ∧ Below w.heap.size w w' := by
  obtain ⟨i0, hi0, hz0, hz1, hz2⟩ := info_parts lab_info
  have hg0 := Goes.start s
  have tp0 := fun W => tpre_c s [123] W
  have tl0 := trimP_len s [123]
  obtain ⟨P1, hP1⟩ : ∃ P, Lib.trimPrefix s [123] = P := ⟨_, rfl⟩
  rw [hP1] at tp0 tl0 hg0
  have ts0 := fun W => tsuf_c P1 [125] W (by omega)
  have tl1 := trimS_len P1 [125]
  obtain ⟨P2, hP2⟩ : ∃ P, Lib.trimSuffix P1 [125] = P := ⟨_, rfl⟩
  rw [hP2] at ts0 tl1 hg0
  have HG0 := Lib.hid hg0
  clear hg0 hP1 hP2
  go_enter Tryd.func103, Tryd.ntmps103
  go_wp2_with (first | (go_at_call 117; refine (tp0 _).mono ?_; rintro e w1 ⟨rfl, rfl⟩) | (go_at_call 116; refine (ts0 _).mono ?_; rintro e w1 ⟨rfl, rfl⟩))
  clear tp0 ts0
  go_loopw [4, 5] (fun a v wr => ∃ (rest : List UInt8) (acc : List Lab), a = .string (str rest) ∧ rest.length ≤ s.length ∧ acc.length ≤ 8 ∧ wr.ownsRow w.heap.size 60 2 v acc.length (labC acc) ∧ (∀ x ∈ acc, x.1.length ≤ s.length ∧ x.2.length ≤ s.length) ∧ Hid (Goes s acc rest) ∧ Below w.heap.size w wr) (fun a _ _ => match a with | .string b => b.size | _ => 0)
  case atStart => exact ⟨P2, [], rfl, by omega, by simp, lrow_nil _ _, by simp, HG0.out, Below.refl _ _⟩
  case round =>
    obtain ⟨rest, acc, rfl, hrl, hal, hown, hsm, HG, hb⟩ := hrel
    obtain ⟨A, cap, rfl⟩ := row_slice hown
    have hsz := hb.size
    have hlow := Lib.hid (ownLow hown)
    have hmr : wr.cell? ⟨0, 0, none⟩ = some (.int .i64 m) := (hb.cell (p := ⟨0, 0, none⟩) hm2).trans hm
    by_cases hr0 : rest = []
    · subst hr0
      have hd := Goes.done HG.out
      have hl := own_lat (v := .slice none 0 0) hown rfl (fun x hx => by have := hsm x hx; omega)
      have HZ : Hid (Guess s (.returned (.tuple #[.slice A acc.length cap, .bool true])) wr) := .inr ⟨A, cap, acc, rfl, hl, hal, hsm, hd⟩
      clear hd hl hown hsm
      go_wp2_with fail
      go_ret2
      exact ⟨HZ.out, hb⟩
    · have hre : rest.isEmpty = false := by cases rest with | nil => exact absurd rfl hr0 | cons c r => rfl
      have hce := cut_E rest
      cases hc : cutE rest with
      | none =>
        rw [hc] at hce
        have cc := fun W h => cut_c rest m W (by omega) h _ _ _ hce
        have hno := Goes.noCut HG.out hr0 hc
        have HZ : Hid (∀ w', Guess s (.returned (.tuple #[.slice none 0 0, .bool false])) w') := fun w' => .inl ⟨rfl, hno⟩
        clear hno hown hsm
        go_wp2_with (go_at_call 118; refine (cc _ hmr).mono ?_; rintro e w1 ⟨rfl, ⟨nq, rfl⟩⟩)
        go_ret2
        exact ⟨HZ.out _, below_drewN hb _⟩
      | some x =>
      obtain ⟨n, bh⟩ := x
      rw [hc] at hce
      have cc := fun W h => cut_c rest m W (by omega) h _ _ _ hce
      have hcl := cutE_len hc
      by_cases h8 : acc.length = 8
      · have hno := Goes.full HG.out hr0 h8
        have HZ : Hid (∀ w', Guess s (.returned (.tuple #[.slice none 0 0, .bool false])) w') := fun w' => .inl ⟨rfl, hno⟩
        have t8 : (((acc.length : Nat) : Int) == 8) = true := by simp [h8]
        clear hno hown hsm h8
        go_wp2_with (go_at_call 118; refine (cc _ hmr).mono ?_; rintro e w1 ⟨rfl, ⟨nq, rfl⟩⟩)
        go_ret2
        exact ⟨HZ.out _, below_drewN hb _⟩
      have t8 : (((acc.length : Nat) : Int) == 8) = false := by rw [beq_eq_false_iff_ne]; omega
      have hal7 : acc.length < 8 := by omega
      have cu := fun W => unquote_c bh W (by omega)
      unfold unqL at cu
      cases hsc : scan (bh.drop 1) with
      | none =>
        rw [hsc] at cu
        have hno := Goes.noScan HG.out hr0 hc hsc
        have HZ : Hid (∀ w', Guess s (.returned (.tuple #[.slice none 0 0, .bool false])) w') := fun w' => .inl ⟨rfl, hno⟩
        clear hno hown hsm h8
        go_wp2_with (first | (go_at_call 118; refine (cc _ hmr).mono ?_; rintro e w1 ⟨rfl, ⟨nq, rfl⟩⟩) | (go_at_call 119; refine (cu _).mono ?_; rintro e w2 ⟨rfl, hb2⟩))
        go_ret2
        exact ⟨HZ.out _, (below_drewN hb nq).trans (hb2.mono hsz)⟩
      | some x =>
        obtain ⟨v, q⟩ := x
        rw [hsc] at cu
        have hgo := Goes.step HG.out hr0 hc hsc
        have hsl := scan_len _ _ _ _ (Nat.le_refl _) hsc
        rw [List.length_drop] at hsl
        have hHG := Lib.hid hgo
        have ck := fun W => lclone_c n W (by omega)
        have tp := fun W => tpre_c q [44] W
        have tl := trimP_len q [44]
        obtain ⟨rest', hrest⟩ : ∃ P, Lib.trimPrefix q [44] = P := ⟨_, rfl⟩
        rw [hrest] at tp tl hHG
        have HO := Lib.hid hown
        have HSM : Hid (∀ x ∈ acc ++ [(n, v)], x.1.length ≤ s.length ∧ x.2.length ≤ s.length) := by
          intro x hx
          rcases List.mem_append.1 hx with hx | hx
          · exact hsm x hx
          · simp at hx; subst hx; constructor <;> simp only <;> omega
        clear hgo hown hsm h8 hrest hc hsc
        go_wp2_with (go_at_call 118; refine (cc _ hmr).mono ?_; rintro e w1 ⟨rfl, ⟨nq, rfl⟩⟩)
        refine (cu _).mono ?_
        rintro e w2 ⟨rfl, hb2⟩
        go_wp2_with fail
        refine (ck _).mono ?_
        rintro e w3 ⟨rfl, hb3⟩
        have hO3 := (Keeps.below (F := []) hb3).row ((Keeps.below (F := []) hb2).row (show (wr.drewN nq).ownsRow _ _ _ _ _ _ from HO.out) (by simp)) (by simp)
        have hs2 : wr.heap.size ≤ w2.heap.size := hb2.size
        have hs3 := hb3.size
        have hB3 : Below w.heap.size w w3 := ((below_drewN hb nq).trans (hb2.mono hsz)).trans (hb3.mono (by omega))
        have HO3 := Lib.hid (hO3.alloc (.cells #[.string (str n), .string (str v)] 60))
        have hB3s := hB3.size
        clear hO3 hb2 hb3 cc cu ck
        go_wp2_with (at_builtin; refine wpList_append_lies _ rfl (.tmp 36) (.tmp 41) 23 rfl w.heap.size 60 i0 (.agg #[.string (str []), .string (str [])]) 2 32 Tryd.underlying23 hi0 hz0 hz1 hz2 rfl (by decide) _ acc.length _ rfl HO3.out ⟨w3.heap.size, 0, none⟩ 1 1 [.string (str n), .string (str v)] rfl rfl ?c1 ?c2 (by decide) ?c3 ?c4 ?c5 _ rfl ?c6)
        case c1 => exact cells_two_new _ _ _ _
        case c2 => intro u hu; simp at hu; rcases hu with rfl | rfl <;> rfl
        case c3 => unfold maxLen; omega
        case c4 => omega
        case c5 => simp; omega
        case c6 =>
          intro g1 cap1 w4 hown1 hg1 _ hl1
          have hb4 : Below w.heap.size w w4 := (hB3.alloc hB3.size _).grown hg1 (by have := hB3.size; simp; omega) hlow.out
          have HO4 := Lib.hid hown1
          clear hown1 hg1
          go_wp2_with (go_at_call 117; refine (tp _).mono ?_; rintro e w5 ⟨rfl, rfl⟩)
          go_roundw
          case rel => exact ⟨rest', acc ++ [(n, v)], rfl, by omega, by simp; omega, by rw [List.length_append, labC_append]; exact HO4.out, HSM.out, hHG.out, hb4⟩
          case measure => simp only [str_size]; omega
/-- What Parse answers. -/
def Parsed : Option (List Lab) → Ending → World → Prop
  | none, e, _ => e = .returned (.tuple #[.slice none 0 0, .int .i64 11])
  | some l, e, w' => ∃ A cap, e = .returned (.tuple #[.slice A l.length cap, .int .i64 0]) ∧ LAt w' A l.length l ∧ l.length ≤ 8
set_option maxHeartbeats 1000000 in
theorem parse_c (s : List UInt8) (w : World) (hs : s.length ≤ 16384) (m : Int) (hm : w.cell? ⟨0, 0, none⟩ = some (.int .i64 m)) (hm2 : 0 < w.heap.size) (hT : Lib.Utf8Tabs 1 2 w) :
    Calls Tryd.prog 75 #[.string (str s)] w fun e w' => Parsed (parseL s) e w' ∧ Below w.heap.size w w' := by
  obtain ⟨R, hR⟩ : ∃ R, parseL s = R := ⟨_, rfl⟩
  rw [hR]
  have HR := Lib.hid hR
  clear hR
  go_enter Tryd.func75, Tryd.ntmps75
  go_wp2_with fail
  refine (guess_c s _ hs m hm hm2).mono ?_
  rintro e w1 ⟨hG, hb1⟩
  rcases hG with ⟨rfl, hno⟩ | ⟨A, cap, l, rfl, hl, hl8, hsm, hun⟩
  · have e : parseL s = none := parseL_none hno
    rw [HR.out] at e
    subst e
    clear hno
    go_wp2_with fail
    go_ret2
    exact ⟨rfl, hb1⟩
  · have cp := fun W h1 h2 => print_c A l.length cap l W (by omega) h1 (fun x hx => by have := hsm x hx; omega) h2
    have hT1 := Utf8Tabs_below hT hb1
    have x0 : eOf true = 0 := rfl
    have x1 : eOf false = 40 := rfl
    have HL := Lib.hid hl
    cases hO : okL l with
    | false =>
      have e : parseL s = none := parseL_none (fun L h1 h2 => by
        have := hun L h1 h2
        subst this
        rw [hO] at h1; cases h1)
      rw [HR.out] at e
      subst e
      rw [hO, x1] at cp
      clear hun hsm
      go_wp2_with (go_at_call 44; refine (cp _ hl hT1).mono ?_; rintro e w2 ⟨rfl, hb2⟩)
      go_ret2
      exact ⟨rfl, below2 hb1 hb2 hb1.size⟩
    | true =>
      rw [hO, x0, if_pos rfl] at cp
      by_cases hp : printL l = s
      · have e := parseL_some hO hp
        rw [HR.out] at e
        subst e
        rw [hp] at cp
        have tn : (s != s) = false := by simp
        clear hun hsm
        go_wp2_with (go_at_call 44; refine (cp _ hl hT1).mono ?_; rintro e w2 ⟨rfl, hb2⟩)
        go_ret2
        exact ⟨⟨A, cap, rfl, HL.out.below hb2, hl8⟩, below2 hb1 hb2 hb1.size⟩
      · have e : parseL s = none := parseL_none (fun L h1 h2 => by
          have := hun L h1 h2
          subst this
          exact hp h2)
        rw [HR.out] at e
        subst e
        have tn : (printL l == s) = false := by rw [beq_eq_false_iff_ne]; exact hp
        obtain ⟨Q, hQ⟩ : ∃ Q, printL l = Q := ⟨_, rfl⟩
        rw [hQ] at cp tn
        clear hun hsm hp hQ
        go_wp2_with (go_at_call 44; refine (cp _ hl hT1).mono ?_; rintro e w2 ⟨rfl, hb2⟩)
        go_ret2
        exact ⟨rfl, below2 hb1 hb2 hb1.size⟩
end Go.Proofs.YtdbifbgjbfnfmaaDoor
/-
  Layer 4 (label): a row of labels of the call's own, sorted in place: the comparison; two places changed; the insertion sort.
-/
namespace Go.Proofs.YtdbifbgjbfnfmaaDoor
open Go.RowKit Go.Deep
attribute [local go_sem] str_size str_append str_toList str_get str_extract
set_option linter.unusedVariables false
set_option linter.unusedSimpArgs false
theorem cmpB_lt (a b : List UInt8) : (Lib.compareBytes a b < 0) ↔ Op.bytesLess a b = true := by
  induction a generalizing b with
  | nil => cases b <;> simp [Lib.compareBytes, Op.bytesLess]
  | cons x a ih =>
    cases b with
    | nil => simp [Lib.compareBytes, Op.bytesLess]
    | cons y b =>
      simp only [Lib.compareBytes, Op.bytesLess, Bool.or_eq_true, decide_eq_true_eq, Bool.and_eq_true, beq_iff_eq]
      by_cases h : x < y
      · simp [h]
      · by_cases h2 : y < x
        · have hne : x ≠ y := fun e => by subst e; exact h h2
          simp [h, h2, hne]
        · have he : x = y := u8_eq (by rw [UInt8.lt_iff_toNat_lt] at h h2; omega)
          subst he
          simp [ih]
def labV (x : Lab) : Value := .agg #[.string (str x.1), .string (str x.2)]
/-- What the comparison answers. -/
def cmpN (x y : Lab) : Int := Lib.compareBytes x.1 y.1
theorem cmpN_lt {x y : Lab} (h : ltN x y = true) : cmpN x y < 0 := (cmpB_lt _ _).2 h
theorem cmpN_ge {x y : Lab} (h : ltN x y = false) : ¬ cmpN x y < 0 := fun hh => by have := (cmpB_lt _ _).1 hh; unfold ltN at h; rw [h] at this; cases this
theorem cmp_c (x y : Lab) (w : World) : Calls Tryd.prog 80 #[.agg #[.string (str x.1), .string (str x.2)], .agg #[.string (str y.1), .string (str y.2)]] w fun e w' => e = .returned (.int .i64 (cmpN x y)) ∧ Below w.heap.size w w' := by
  have c1 := fun W => Tryd.strings_Compare (str x.1) (str y.1) W
  rw [str_data, str_data] at c1
  have e : Lib.compareBytes x.1 y.1 = cmpN x y := rfl
  rw [e] at c1
  clear e
  go_enter Tryd.func80, Tryd.ntmps80
  go_wp2_with (go_at_call 81; refine (c1 _).mono ?_; rintro e w1 ⟨rfl, rfl⟩)
  go_ret
  exact ⟨rfl, by repeat (first | exact Below.refl _ _ | (refine Below.alloc ?_ (by simp <;> omega) _))⟩
/-- Block g begins with the labels l. -/
def RowL (g : Nat) (l : List Lab) (w : World) : Prop := ∃ cur : Array Value, w.heap[g]? = some (.cells cur 60 (0, 0)) ∧ 2 * l.length ≤ cur.size ∧ ∀ i (h : i < l.length), cur[2 * i]? = some (.string (str l[i].1)) ∧ cur[2 * i + 1]? = some (.string (str l[i].2))
theorem RowL.below {g : Nat} {l : List Lab} {w w' : World} (h : RowL g l w) (hb : Below w.heap.size w w') : RowL g l w' := by
  obtain ⟨cur, h1, h2, h3⟩ := h
  exact ⟨cur, (hb.block g (lt_of_block h1)).trans h1, h2, h3⟩
theorem RowL.drew {g : Nat} {l : List Lab} {w : World} (h : RowL g l w) : RowL g l w.drew := h
theorem RowL.get {g : Nat} {D E : List Lab} {x : Lab} {w : World} (h : RowL g (D ++ x :: E) w) (k : Nat) (hk : k = D.length) :
    w.cell? ⟨g, k * 2, none⟩ = some (.string (str x.1)) ∧ w.cell? ⟨g, k * 2 + 1, none⟩ = some (.string (str x.2)) ∧ w.frozen? ⟨g, k * 2, none⟩ = false ∧ w.frozen? ⟨g, k * 2 + 1, none⟩ = false := by
  obtain ⟨cur, h1, h2, h3⟩ := h
  subst hk
  have := h3 D.length (by simp)
  simp at this
  refine ⟨?_, ?_, blk_free h1 _, blk_free h1 _⟩
  · rw [blk_cell h1, Nat.mul_comm]; exact this.1
  · rw [blk_cell h1, Nat.mul_comm]; exact this.2
theorem RowL.put {g : Nat} {D E : List Lab} {x : Lab} {w : World} (h : RowL g (D ++ x :: E) w) (z : Lab) (k : Nat) (hk : k = D.length) :
    RowL g (D ++ z :: E) ((w.setCell ⟨g, k * 2, none⟩ (.string (str z.1))).setCell ⟨g, k * 2 + 1, none⟩ (.string (str z.2))) := by
  obtain ⟨cur, h1, h2, h3⟩ := h
  subst hk
  have e1 := blk_set h1 (D.length * 2) (.string (str z.1))
  have e2 := blk_set e1 (D.length * 2 + 1) (.string (str z.2))
  refine ⟨_, e2, by simpa using h2, fun i hi => ?_⟩
  have hi' : i < (D ++ x :: E).length := by simpa using hi
  have hh := h3 i hi'
  simp only [Array.getElem?_setIfInBounds, Array.size_setIfInBounds]
  simp at h2
  by_cases hd : i = D.length
  · subst hd
    rw [if_neg (by omega), if_pos (by omega), if_pos (by omega), if_pos (by omega), if_pos (by omega)]
    simp
  · rw [if_neg (by omega), if_neg (by omega), if_neg (by omega), if_neg (by omega)]
    have e : (D ++ z :: E)[i] = (D ++ x :: E)[i] := by
      by_cases hl : i < D.length
      · rw [List.getElem_append_left hl, List.getElem_append_left hl]
      · obtain ⟨j, rfl⟩ : ∃ j, i = D.length + (j + 1) := ⟨i - D.length - 1, by omega⟩
        rw [List.getElem_append_right (by omega), List.getElem_append_right (by omega)]
        simp
    rw [e]; exact hh
end Go.Proofs.YtdbifbgjbfnfmaaDoor
/-
  Layer 4 (label): two pieces of a row of labels change places; a row is turned.
-/
namespace Go.Proofs.YtdbifbgjbfnfmaaDoor
open Go.RowKit Go.Deep
attribute [local go_sem] str_size str_append str_toList str_get str_extract
set_option linter.unusedVariables false
set_option linter.unusedSimpArgs false
/-- i places have been changed. -/
def SwAt (P X M Y S : List Lab) (i : Nat) : List Lab := P ++ (Y.take i ++ X.drop i) ++ M ++ (X.take i ++ Y.drop i) ++ S
theorem SwAt.two {P X M Y S : List Lab} {i n : Nat} (hX : X.length = n) (hY : Y.length = n) (hi : i < n) : ∃ D x E y F, SwAt P X M Y S i = D ++ x :: (E ++ y :: F) ∧ SwAt P X M Y S (i + 1) = D ++ y :: (E ++ x :: F) ∧ D.length = P.length + i ∧ D.length + 1 + E.length = P.length + n + M.length + i := by
  have h1 : X.drop i = X[i] :: X.drop (i + 1) := List.drop_eq_getElem_cons (by omega)
  have h2 : Y.drop i = Y[i] :: Y.drop (i + 1) := List.drop_eq_getElem_cons (by omega)
  have h3 : X.take (i + 1) = X.take i ++ [X[i]] := List.take_succ_eq_append_getElem (by omega)
  have h4 : Y.take (i + 1) = Y.take i ++ [Y[i]] := List.take_succ_eq_append_getElem (by omega)
  refine ⟨P ++ Y.take i, X[i], X.drop (i + 1) ++ M ++ X.take i, Y[i], Y.drop (i + 1) ++ S, ?_, ?_, ?_, ?_⟩
  · unfold SwAt; rw [h1, h2]; simp only [List.append_assoc, List.cons_append, List.nil_append]
  · unfold SwAt; rw [h3, h4]; simp only [List.append_assoc, List.cons_append, List.nil_append]
  · simp; omega
  · simp; omega
set_option maxHeartbeats 4000000 in
theorem swapRange_c (g B N cap a b n : Nat) (P X M Y S : List Lab) (w : World) (hg : B ≤ g) (ha : a = P.length) (hb : b = P.length + n + M.length) (hX : X.length = n) (hY : Y.length = n) (hN : P.length + n + M.length + n ≤ N) (hn : N ≤ 4096) (hr : RowL g (P ++ X ++ M ++ Y ++ S) w) (cf : Value) :
    Calls Tryd.prog 135 #[.slice (some ⟨g, 0, none⟩) N cap, .int .i64 (a : Int), .int .i64 (b : Int), .int .i64 (n : Int), cf] w fun e w' => e = .returned (.tuple #[]) ∧ RowL g (P ++ Y ++ M ++ X ++ S) w' ∧ Below B w w' := by
  have H0 : Hid (RowL g (SwAt P X M Y S 0) w) := by show RowL _ _ _; unfold SwAt; simpa using hr
  have H1 : Hid (SwAt P X M Y S n = P ++ Y ++ M ++ X ++ S) := by
    show _ = _
    unfold SwAt
    rw [List.take_of_length_le (by omega : Y.length ≤ n), List.take_of_length_le (by omega : X.length ≤ n), List.drop_eq_nil_of_le (by omega : Y.length ≤ n), List.drop_eq_nil_of_le (by omega : X.length ≤ n)]
    simp
  have HX := Lib.hid (And.intro hX hY)
  have HA := Lib.hid (And.intro ha hb)
  have han : a + n ≤ b := by omega
  have hbn : b + n ≤ N := by omega
  clear hr hX hY ha hb hN
  go_enter Tryd.func135, Tryd.ntmps135
  go_wp2_with fail
  go_loopw [10] (fun c wr => ∃ i : Nat, c = .int .i64 i ∧ i ≤ n ∧ RowL g (SwAt P X M Y S i) wr ∧ Below B w wr) (fun c _ => n - (intOf c).toNat)
  case atStart => exact ⟨0, rfl, by omega, H0.out, Below.refl _ _⟩
  case round =>
    obtain ⟨i, rfl, hi, hrow, hbw⟩ := hrel
    by_cases hlt : i < n
    · obtain ⟨D, x, E, y, F, e1, e2, hD, hE⟩ := SwAt.two (P := P) (M := M) (S := S) HX.out.1 HX.out.2 hlt
      rw [e1] at hrow
      obtain ⟨u, hu⟩ : ∃ u, u = a + i := ⟨_, rfl⟩
      obtain ⟨v, hv⟩ : ∃ v, v = b + i := ⟨_, rfl⟩
      have hDu : u = D.length := by have := HA.out.1; omega
      have hDv : v = D.length + 1 + E.length := by have := HA.out.2; omega
      obtain ⟨x0, x1, fx0, fx1⟩ := hrow.get (D := D) (x := x) u hDu
      obtain ⟨y0, y1, fy0, fy1⟩ := RowL.get (g := g) (D := D ++ x :: E) (x := y) (E := F) (w := wr) (by simpa using hrow) v (by simp; omega)
      have eu : (a : Int) + (i : Int) = (u : Int) := by omega
      have ev : (b : Int) + (i : Int) = (v : Int) := by omega
      have iu : (0 : Int) ≤ (u : Int) ∧ (u : Int) < (N : Int) := by omega
      have iv : (0 : Int) ≤ (v : Int) ∧ (v : Int) < (N : Int) := by omega
      have wu : IntKind.i64.wrap (u : Int) = (u : Int) := IntWalk.i64_in _ (by omega)
      have wv : IntKind.i64.wrap (v : Int) = (v : Int) := IntWalk.i64_in _ (by omega)
      have HROW := Lib.hid hrow
      have HE2 := Lib.hid e2
      have HDU := Lib.hid (And.intro hDu hDv)
      clear e1 e2 hrow hu hv hDu hDv hD hE
      go_wp2_with fail
      refine wp_region_held_drew (S := fun _ => True) (by kernel_rfl) trivial (fun hHeld => ?_)
      refine held_w (i := 0) (d := some 16) (v := ?_) rfl (by kernel_rfl) (by kernel_rfl) (by kernel_rfl) (fun _ _ _ h => h) (by rfl) ?_ hHeld ?_
      rotate_left
      · intro w' hSw; obtain ⟨q0⟩ := hSw; simp only [List.getElem?_toArray, List.getElem?_cons_zero, List.getElem?_cons_succ]; go_simp; try with_reducible rfl
      try simp only [Act.put, List.setIfInBounds_toArray, List.set_cons_zero, List.set_cons_succ]
      refine held_w (i := 1) (d := some 17) (v := ?_) rfl (by kernel_rfl) (by kernel_rfl) (by kernel_rfl) (fun _ _ _ h => h) (by rfl) ?_ hHeld ?_
      rotate_left
      · intro w' hSw; obtain ⟨q0⟩ := hSw; simp only [List.getElem?_toArray, List.getElem?_cons_zero, List.getElem?_cons_succ]; go_simp; try with_reducible rfl
      try simp only [Act.put, List.setIfInBounds_toArray, List.set_cons_zero, List.set_cons_succ]
      refine held_w (i := 2) (d := some 18) (v := ?_) rfl (by kernel_rfl) (by kernel_rfl) (by kernel_rfl) (fun _ _ _ h => h) (by rfl) ?_ hHeld ?_
      rotate_left
      · intro w' hSw; obtain ⟨q0⟩ := hSw; simp only [List.getElem?_toArray, List.getElem?_cons_zero, List.getElem?_cons_succ]; go_simp; try with_reducible rfl
      try simp only [Act.put, List.setIfInBounds_toArray, List.set_cons_zero, List.set_cons_succ]
      refine held_w (i := 3) (d := some 19) (v := ?_) rfl (by kernel_rfl) (by kernel_rfl) (by kernel_rfl) (fun _ _ _ h => h) (by rfl) ?_ hHeld ?_
      rotate_left
      · intro w' hSw; obtain ⟨q0⟩ := hSw; simp only [List.getElem?_toArray, List.getElem?_cons_zero, List.getElem?_cons_succ]; go_simp; try with_reducible rfl
      try simp only [Act.put, List.setIfInBounds_toArray, List.set_cons_zero, List.set_cons_succ]
      refine held_w (i := 4) (d := some 20) (v := ?_) rfl (by kernel_rfl) (by kernel_rfl) (by kernel_rfl) (fun _ _ _ h => h) (by rfl) ?_ hHeld ?_
      rotate_left
      · intro w' hSw; obtain ⟨q0⟩ := hSw; simp only [List.getElem?_toArray, List.getElem?_cons_zero, List.getElem?_cons_succ]; go_simp; try with_reducible rfl
      try simp only [Act.put, List.setIfInBounds_toArray, List.set_cons_zero, List.set_cons_succ]
      refine held_w (i := 5) (d := some 21) (v := ?_) rfl (by kernel_rfl) (by kernel_rfl) (by kernel_rfl) (fun _ _ _ h => h) (by rfl) ?_ hHeld ?_
      rotate_left
      · intro w' hSw; obtain ⟨q0⟩ := hSw; simp only [List.getElem?_toArray, List.getElem?_cons_zero, List.getElem?_cons_succ]; go_simp; try with_reducible rfl
      try simp only [Act.put, List.setIfInBounds_toArray, List.set_cons_zero, List.set_cons_succ]
      refine held_w (i := 6) (d := some 22) (v := ?_) rfl (by kernel_rfl) (by kernel_rfl) (by kernel_rfl) (fun _ _ _ h => h) (by rfl) ?_ hHeld ?_
      rotate_left
      · intro w' hSw; obtain ⟨q0⟩ := hSw; simp only [List.getElem?_toArray, List.getElem?_cons_zero, List.getElem?_cons_succ]; go_simp; try with_reducible rfl
      try simp only [Act.put, List.setIfInBounds_toArray, List.set_cons_zero, List.set_cons_succ]
      refine held_w (i := 7) (d := some 23) (v := ?_) rfl (by kernel_rfl) (by kernel_rfl) (by kernel_rfl) (fun _ _ _ h => h) (by rfl) ?_ hHeld ?_
      rotate_left
      · intro w' hSw; obtain ⟨q0⟩ := hSw; simp only [List.getElem?_toArray, List.getElem?_cons_zero, List.getElem?_cons_succ]; go_simp; try with_reducible rfl
      try simp only [Act.put, List.setIfInBounds_toArray, List.set_cons_zero, List.set_cons_succ]
      refine held_w (i := 8) (d := some 24) (v := ?_) rfl (by kernel_rfl) (by kernel_rfl) (by kernel_rfl) (fun _ _ _ h => h) (by rfl) ?_ hHeld ?_
      rotate_left
      · intro w' hSw; obtain ⟨q0⟩ := hSw; simp only [List.getElem?_toArray, List.getElem?_cons_zero, List.getElem?_cons_succ]; go_simp; try with_reducible rfl
      try simp only [Act.put, List.setIfInBounds_toArray, List.set_cons_zero, List.set_cons_succ]
      refine held_w (i := 9) (d := some 25) (v := ?_) rfl (by kernel_rfl) (by kernel_rfl) (by kernel_rfl) (fun _ _ _ h => h) (by rfl) ?_ hHeld ?_
      rotate_left
      · intro w' hSw; obtain ⟨q0⟩ := hSw; simp only [List.getElem?_toArray, List.getElem?_cons_zero, List.getElem?_cons_succ]; go_simp; try with_reducible rfl
      try simp only [Act.put, List.setIfInBounds_toArray, List.set_cons_zero, List.set_cons_succ]
      refine held_w (i := 10) (d := some 26) (v := ?_) rfl (by kernel_rfl) (by kernel_rfl) (by kernel_rfl) (fun _ _ _ h => h) (by rfl) ?_ hHeld ?_
      rotate_left
      · intro w' hSw; obtain ⟨q0⟩ := hSw; simp only [List.getElem?_toArray, List.getElem?_cons_zero, List.getElem?_cons_succ]; go_simp; try with_reducible rfl
      try simp only [Act.put, List.setIfInBounds_toArray, List.set_cons_zero, List.set_cons_succ]
      refine held_w (i := 11) (d := some 27) (v := ?_) rfl (by kernel_rfl) (by kernel_rfl) (by kernel_rfl) (fun _ _ _ h => h) (by rfl) ?_ hHeld ?_
      rotate_left
      · intro w' hSw; obtain ⟨q0⟩ := hSw; simp only [List.getElem?_toArray, List.getElem?_cons_zero, List.getElem?_cons_succ]; go_simp; try with_reducible rfl
      try simp only [Act.put, List.setIfInBounds_toArray, List.set_cons_zero, List.set_cons_succ]
      refine held_w (i := 12) (d := some 28) (v := ?_) rfl (by kernel_rfl) (by kernel_rfl) (by kernel_rfl) (fun _ _ _ h => h) (by rfl) ?_ hHeld ?_
      rotate_left
      · intro w' hSw; obtain ⟨q0⟩ := hSw; simp only [List.getElem?_toArray, List.getElem?_cons_zero, List.getElem?_cons_succ]; go_simp; try with_reducible rfl
      try simp only [Act.put, List.setIfInBounds_toArray, List.set_cons_zero, List.set_cons_succ]
      refine held_w (i := 14) (d := some 30) (v := ?_) rfl (by kernel_rfl) (by kernel_rfl) (by kernel_rfl) (fun _ _ _ h => h) (by rfl) ?_ hHeld ?_
      rotate_left
      · intro w' hSw; obtain ⟨q0⟩ := hSw; simp only [List.getElem?_toArray, List.getElem?_cons_zero, List.getElem?_cons_succ]; go_simp; try with_reducible rfl
      try simp only [Act.put, List.setIfInBounds_toArray, List.set_cons_zero, List.set_cons_succ]
      refine held_w (i := 15) (d := some 31) (v := ?_) rfl (by kernel_rfl) (by kernel_rfl) (by kernel_rfl) (fun _ _ _ h => h) (by rfl) ?_ hHeld ?_
      rotate_left
      · intro w' hSw; obtain ⟨q0⟩ := hSw; simp only [List.getElem?_toArray, List.getElem?_cons_zero, List.getElem?_cons_succ]; go_simp; try with_reducible rfl
      try simp only [Act.put, List.setIfInBounds_toArray, List.set_cons_zero, List.set_cons_succ]
      refine held_w (i := 16) (d := some 32) (v := ?_) rfl (by kernel_rfl) (by kernel_rfl) (by kernel_rfl) (fun _ _ _ h => h) (by rfl) ?_ hHeld ?_
      rotate_left
      · intro w' hSw; obtain ⟨q0⟩ := hSw; simp only [List.getElem?_toArray, List.getElem?_cons_zero, List.getElem?_cons_succ]; go_simp; try with_reducible rfl
      try simp only [Act.put, List.setIfInBounds_toArray, List.set_cons_zero, List.set_cons_succ]
      refine held_w (i := 17) (d := some 33) (v := ?_) rfl (by kernel_rfl) (by kernel_rfl) (by kernel_rfl) (fun _ _ _ h => h) (by rfl) ?_ hHeld ?_
      rotate_left
      · intro w' hSw; obtain ⟨q0⟩ := hSw; simp only [List.getElem?_toArray, List.getElem?_cons_zero, List.getElem?_cons_succ]; go_simp; try with_reducible rfl
      try simp only [Act.put, List.setIfInBounds_toArray, List.set_cons_zero, List.set_cons_succ]
      refine held_w (i := 18) (d := some 34) (v := ?_) rfl (by kernel_rfl) (by kernel_rfl) (by kernel_rfl) (fun _ _ _ h => h) (by rfl) ?_ hHeld ?_
      rotate_left
      · intro w' hSw; obtain ⟨q0⟩ := hSw; simp only [List.getElem?_toArray, List.getElem?_cons_zero, List.getElem?_cons_succ]; go_simp; try with_reducible rfl
      try simp only [Act.put, List.setIfInBounds_toArray, List.set_cons_zero, List.set_cons_succ]
      refine held_many (rs := [13, 19]) (by kernel_rfl) (by simp) ⟨?_, ?_, trivial⟩
      · refine ⟨by rfl, fun K hK => ?_⟩
        simp only [List.getElem?_toArray, List.getElem?_cons_zero, List.getElem?_cons_succ]
        go_simp
        refine hK.out _ _ trivial (fun hHeld => ?_)
        clear hK K
        try simp only [Act.put, List.setIfInBounds_toArray, List.set_cons_zero, List.set_cons_succ]
        refine held_c (i := 19) (by kernel_rfl) (by rfl) (fun K hK => ?_)
        simp only [List.getElem?_toArray, List.getElem?_cons_zero, List.getElem?_cons_succ]
        go_simp
        refine hK.out _ _ trivial (fun hHeld => ?_)
        clear hK K
        try simp only [Act.put, List.setIfInBounds_toArray, List.set_cons_zero, List.set_cons_succ]
        refine held_w (i := 20) (d := some 36) (v := ?_) rfl (by kernel_rfl) (by kernel_rfl) (by kernel_rfl) (fun _ _ _ h => h) (by rfl) ?_ hHeld ?_
        rotate_left
        · intro w' hSw; obtain ⟨q0⟩ := hSw; simp only [List.getElem?_toArray, List.getElem?_cons_zero, List.getElem?_cons_succ]; go_simp; try with_reducible rfl
        try simp only [Act.put, List.setIfInBounds_toArray, List.set_cons_zero, List.set_cons_succ]
        refine held_c (i := 21) (by kernel_rfl) (by rfl) (fun K hK => ?_)
        simp only [List.getElem?_toArray, List.getElem?_cons_zero, List.getElem?_cons_succ]
        go_simp
        refine hK.out _ _ trivial (fun hHeld => ?_)
        clear hK K
        try simp only [Act.put, List.setIfInBounds_toArray, List.set_cons_zero, List.set_cons_succ]
        refine held_w (i := 22) (d := some 37) (v := ?_) rfl (by kernel_rfl) (by kernel_rfl) (by kernel_rfl) (fun _ _ _ h => h) (by rfl) ?_ hHeld ?_
        rotate_left
        · intro w' hSw; obtain ⟨q0⟩ := hSw; simp only [List.getElem?_toArray, List.getElem?_cons_zero, List.getElem?_cons_succ]; go_simp; try with_reducible rfl
        try simp only [Act.put, List.setIfInBounds_toArray, List.set_cons_zero, List.set_cons_succ]
        refine held_c (i := 23) (by kernel_rfl) (by rfl) (fun K hK => ?_)
        simp only [List.getElem?_toArray, List.getElem?_cons_zero, List.getElem?_cons_succ]
        go_simp
        refine hK.out _ _ trivial (fun hHeld => ?_)
        clear hK K
        try simp only [Act.put, List.setIfInBounds_toArray, List.set_cons_zero, List.set_cons_succ]
        refine wpAnyH_done (by kernel_rfl) ?_ _
        have hp1 := RowL.put (g := g) (D := D) (x := x) (E := E ++ y :: F) (w := wr) HROW.out y u HDU.out.1
        have hp2 := RowL.put (g := g) (D := D ++ y :: E) (x := y) (E := F) (by simpa using hp1) x v (by have := HDU.out.2; simp; omega)
        have hbf : Below B w ((((wr.setCell ⟨g, u * 2, none⟩ (.string (str y.1))).setCell ⟨g, u * 2 + 1, none⟩ (.string (str y.2))).setCell ⟨g, v * 2, none⟩ (.string (str x.1))).setCell ⟨g, v * 2 + 1, none⟩ (.string (str x.2))) := (((hbw.setCell (p := ⟨g, u * 2, none⟩) hg _).setCell (p := ⟨g, u * 2 + 1, none⟩) hg _).setCell (p := ⟨g, v * 2, none⟩) hg _).setCell (p := ⟨g, v * 2 + 1, none⟩) hg _
        have e3 : D ++ y :: E ++ x :: F = SwAt P X M Y S (i + 1) := by rw [HE2.out]; simp
        rw [e3] at hp2
        have HP2 := Lib.hid hp2
        clear hp1 hp2 e3 hHeld y0 y1 fy0 fy1 x0 x1 fx0 fx1
        generalize (((wr.setCell ⟨g, u * 2, none⟩ (.string (str y.1))).setCell ⟨g, u * 2 + 1, none⟩ (.string (str y.2))).setCell ⟨g, v * 2, none⟩ (.string (str x.1))).setCell ⟨g, v * 2 + 1, none⟩ (.string (str x.2)) = wz at *
        go_wp2_with fail
        go_roundw
        case rel => exact ⟨i + 1, by go_num, by omega, HP2.out.drew, hbf.drew⟩
        case measure => simp [intOf]; omega
      · refine ⟨by rfl, fun K hK => ?_⟩
        simp only [List.getElem?_toArray, List.getElem?_cons_zero, List.getElem?_cons_succ]
        go_simp
        refine hK.out _ _ trivial (fun hHeld => ?_)
        clear hK K
        try simp only [Act.put, List.setIfInBounds_toArray, List.set_cons_zero, List.set_cons_succ]
        refine held_c (i := 13) (by kernel_rfl) (by rfl) (fun K hK => ?_)
        simp only [List.getElem?_toArray, List.getElem?_cons_zero, List.getElem?_cons_succ]
        go_simp
        refine hK.out _ _ trivial (fun hHeld => ?_)
        clear hK K
        try simp only [Act.put, List.setIfInBounds_toArray, List.set_cons_zero, List.set_cons_succ]
        refine held_w (i := 20) (d := some 36) (v := ?_) rfl (by kernel_rfl) (by kernel_rfl) (by kernel_rfl) (fun _ _ _ h => h) (by rfl) ?_ hHeld ?_
        rotate_left
        · intro w' hSw; obtain ⟨q0⟩ := hSw; simp only [List.getElem?_toArray, List.getElem?_cons_zero, List.getElem?_cons_succ]; go_simp; try with_reducible rfl
        try simp only [Act.put, List.setIfInBounds_toArray, List.set_cons_zero, List.set_cons_succ]
        refine held_c (i := 21) (by kernel_rfl) (by rfl) (fun K hK => ?_)
        simp only [List.getElem?_toArray, List.getElem?_cons_zero, List.getElem?_cons_succ]
        go_simp
        refine hK.out _ _ trivial (fun hHeld => ?_)
        clear hK K
        try simp only [Act.put, List.setIfInBounds_toArray, List.set_cons_zero, List.set_cons_succ]
        refine held_w (i := 22) (d := some 37) (v := ?_) rfl (by kernel_rfl) (by kernel_rfl) (by kernel_rfl) (fun _ _ _ h => h) (by rfl) ?_ hHeld ?_
        rotate_left
        · intro w' hSw; obtain ⟨q0⟩ := hSw; simp only [List.getElem?_toArray, List.getElem?_cons_zero, List.getElem?_cons_succ]; go_simp; try with_reducible rfl
        try simp only [Act.put, List.setIfInBounds_toArray, List.set_cons_zero, List.set_cons_succ]
        refine held_c (i := 23) (by kernel_rfl) (by rfl) (fun K hK => ?_)
        simp only [List.getElem?_toArray, List.getElem?_cons_zero, List.getElem?_cons_succ]
        go_simp
        refine hK.out _ _ trivial (fun hHeld => ?_)
        clear hK K
        try simp only [Act.put, List.setIfInBounds_toArray, List.set_cons_zero, List.set_cons_succ]
        refine wpAnyH_done (by kernel_rfl) ?_ _
        have hp1 := RowL.put (g := g) (D := D) (x := x) (E := E ++ y :: F) (w := wr) HROW.out y u HDU.out.1
        have hp2 := RowL.put (g := g) (D := D ++ y :: E) (x := y) (E := F) (by simpa using hp1) x v (by have := HDU.out.2; simp; omega)
        have hbf : Below B w ((((wr.setCell ⟨g, u * 2, none⟩ (.string (str y.1))).setCell ⟨g, u * 2 + 1, none⟩ (.string (str y.2))).setCell ⟨g, v * 2, none⟩ (.string (str x.1))).setCell ⟨g, v * 2 + 1, none⟩ (.string (str x.2))) := (((hbw.setCell (p := ⟨g, u * 2, none⟩) hg _).setCell (p := ⟨g, u * 2 + 1, none⟩) hg _).setCell (p := ⟨g, v * 2, none⟩) hg _).setCell (p := ⟨g, v * 2 + 1, none⟩) hg _
        have e3 : D ++ y :: E ++ x :: F = SwAt P X M Y S (i + 1) := by rw [HE2.out]; simp
        rw [e3] at hp2
        have HP2 := Lib.hid hp2
        clear hp1 hp2 e3 hHeld y0 y1 fy0 fy1 x0 x1 fx0 fx1
        generalize (((wr.setCell ⟨g, u * 2, none⟩ (.string (str y.1))).setCell ⟨g, u * 2 + 1, none⟩ (.string (str y.2))).setCell ⟨g, v * 2, none⟩ (.string (str x.1))).setCell ⟨g, v * 2 + 1, none⟩ (.string (str x.2)) = wz at *
        go_wp2_with fail
        go_roundw
        case rel => exact ⟨i + 1, by go_num, by omega, HP2.out.drew, hbf.drew⟩
        case measure => simp [intOf]; omega
    · obtain rfl : i = n := by omega
      have HROW := Lib.hid hrow
      go_wp2_with fail
      go_end0
      refine ⟨rfl, ?_, hbw⟩
      rw [← H1.out]; exact HROW.out
set_option maxHeartbeats 2000000 in
theorem rotate_c (g B N cap a m b : Nat) (P U V S : List Lab) (w : World) (hg : B ≤ g) (hB : B ≤ w.heap.size) (ha : a = P.length) (hm : m = P.length + U.length) (hb : b = P.length + U.length + V.length) (hU : 1 ≤ U.length) (hV : 1 ≤ V.length) (hN : b ≤ N) (hn : N ≤ 4096) (hr : RowL g (P ++ U ++ V ++ S) w) (cf : Value) :
    Calls Tryd.prog 131 #[.slice (some ⟨g, 0, none⟩) N cap, .int .i64 (a : Int), .int .i64 (m : Int), .int .i64 (b : Int), cf] w fun e w' => e = .returned (.tuple #[]) ∧ RowL g (P ++ V ++ U ++ S) w' ∧ Below B w w' := by
  obtain ⟨T, hT⟩ : ∃ T, P ++ V ++ U ++ S = T := ⟨_, rfl⟩
  rw [hT]
  have e1 : (m : Int) - (a : Int) = ((U.length : Nat) : Int) := by omega
  have e2 : (b : Int) - (m : Int) = ((V.length : Nat) : Int) := by omega
  have H0 : Hid (∃ P' X Y S', U.length = X.length ∧ V.length = Y.length ∧ 1 ≤ X.length ∧ 1 ≤ Y.length ∧ P'.length + X.length = m ∧ m + Y.length ≤ N ∧ P' ++ Y ++ X ++ S' = T ∧ RowL g (P' ++ X ++ Y ++ S') w) := ⟨P, U, V, S, rfl, rfl, hU, hV, by omega, by omega, hT, hr⟩
  have hUl : U.length ≤ N := by omega
  have hVl : V.length ≤ N := by omega
  have hmN : m ≤ N := by omega
  clear hr hT ha hb hm
  obtain ⟨ul, hul⟩ : ∃ ul, U.length = ul := ⟨_, rfl⟩
  obtain ⟨vl, hvl⟩ : ∃ vl, V.length = vl := ⟨_, rfl⟩
  rw [hul] at e1 H0 hUl hU
  rw [hvl] at e2 H0 hVl hV
  clear hul hvl
  go_enter Tryd.func131, Tryd.ntmps131
  go_wp2_with fail
  go_loopw [10, 11] (fun c d wr => ∃ i j : Nat, c = .int .i64 i ∧ d = .int .i64 j ∧ i ≤ N ∧ j ≤ N ∧ Hid (∃ P' X Y S', i = X.length ∧ j = Y.length ∧ 1 ≤ X.length ∧ 1 ≤ Y.length ∧ P'.length + X.length = m ∧ m + Y.length ≤ N ∧ P' ++ Y ++ X ++ S' = T ∧ RowL g (P' ++ X ++ Y ++ S') wr) ∧ Below B w wr) (fun c d _ => (intOf c).toNat + (intOf d).toNat)
  case atStart => exact ⟨ul, vl, rfl, rfl, hUl, hVl, H0.out, Below.refl _ _⟩
  case round =>
    obtain ⟨i, j, rfl, rfl, hi, hj, HI, hbw⟩ := hrel
    obtain ⟨P', X, Y, S', hX, hY, hX1, hY1, hPm, hmY, hTT, hrow⟩ := HI.out
    have hsz := hbw.size
    have HT := Lib.hid hTT
    have hi1 : 1 ≤ i := by omega
    have hj1 : 1 ≤ j := by omega
    have him : i ≤ m := by omega
    have hmj : m + j ≤ N := by omega
    have HXY := Lib.hid (And.intro hX (And.intro hY hPm))
    clear hTT e1 e2 HI
    by_cases hij : i = j
    · subst hij
      have ne : ((i : Int) != (i : Int)) = false := by simp
      obtain ⟨q, hq⟩ : ∃ q, q = m - i := ⟨_, rfl⟩
      have eq1 : (m : Int) - (i : Int) = (q : Int) := by omega
      have sw := fun cf => swapRange_c g B N cap q m i P' X [] Y S' wr hg (by omega) (by simp; omega) hX.symm hY.symm (by simp; omega) hn (by simpa using hrow) cf
      clear hX hY hX1 hY1 hPm hmY hrow hq
      go_wp2_with (go_at_call 135; refine (sw _).mono ?_; rintro e w2 ⟨rfl, hr2, hb2⟩)
      go_end0
      refine ⟨rfl, ?_, hbw.trans hb2⟩
      rw [← HT.out]; simpa using hr2
    · have ne : ((i : Int) != (j : Int)) = true := by simp; omega
      by_cases hgt : j < i
      · have hgt' : (j : Int) < (i : Int) := by omega
        obtain ⟨q, hq⟩ : ∃ q, q = m - i := ⟨_, rfl⟩
        have eq1 : (m : Int) - (i : Int) = (q : Int) := by omega
        obtain ⟨d, hd⟩ : ∃ d, d = i - j := ⟨_, rfl⟩
        have ed : (i : Int) - (j : Int) = (d : Int) := by omega
        have hXs : X = X.take j ++ X.drop j := (List.take_append_drop j X).symm
        have hTT2 : P' ++ Y ++ (X.take j ++ X.drop j) ++ S' = T := by rw [List.take_append_drop]; exact HT.out
        have l1 : (X.take j).length = j := by rw [List.length_take]; omega
        have l2 : (X.drop j).length = d := by rw [List.length_drop]; omega
        have sw := fun cf => swapRange_c g B N cap q m j P' (X.take j) (X.drop j) Y S' wr hg (by omega) (by rw [l2]; omega) l1 hY.symm (by rw [l2]; omega) hn (by rw [hXs] at hrow; simpa using hrow) cf
        have HN : Hid (∀ W, RowL g (P' ++ Y ++ X.drop j ++ X.take j ++ S') W → ∃ P' X Y S', d = X.length ∧ j = Y.length ∧ 1 ≤ X.length ∧ 1 ≤ Y.length ∧ P'.length + X.length = m ∧ m + Y.length ≤ N ∧ P' ++ Y ++ X ++ S' = T ∧ RowL g (P' ++ X ++ Y ++ S') W) := fun W hW => ⟨P' ++ Y, X.drop j, X.take j, S', l2.symm, l1.symm, by omega, by omega, by simp; omega, by omega, by rw [← hTT2]; simp, hW⟩
        clear hX hY hX1 hY1 hPm hmY hrow hq hd hXs l1 l2 hTT2
        go_wp2_with (go_at_call 135; refine (sw _).mono ?_; rintro e w2 ⟨rfl, hr2, hb2⟩)
        go_roundw
        case rel => exact ⟨d, j, rfl, rfl, by omega, hj, HN.out _ hr2, hbw.trans hb2⟩
        case measure => simp [intOf]; omega
      · have hgt' : ¬ (j : Int) < (i : Int) := by omega
        obtain ⟨q, hq⟩ : ∃ q, q = m - i := ⟨_, rfl⟩
        have eq1 : (m : Int) - (i : Int) = (q : Int) := by omega
        obtain ⟨d, hd⟩ : ∃ d, d = j - i := ⟨_, rfl⟩
        have ed : (j : Int) - (i : Int) = (d : Int) := by omega
        obtain ⟨r, hr'⟩ : ∃ r, r = m + j - i := ⟨_, rfl⟩
        have er : (m : Int) + (j : Int) - (i : Int) = (r : Int) := by omega
        have hYs : Y = Y.take d ++ Y.drop d := (List.take_append_drop d Y).symm
        have hTT2 : P' ++ (Y.take d ++ Y.drop d) ++ X ++ S' = T := by rw [List.take_append_drop]; exact HT.out
        have l1 : (Y.take d).length = d := by rw [List.length_take]; omega
        have l2 : (Y.drop d).length = i := by rw [List.length_drop]; omega
        have sw := fun cf => swapRange_c g B N cap q r i P' X (Y.take d) (Y.drop d) S' wr hg (by omega) (by rw [l1]; omega) hX.symm l2 (by rw [l1]; omega) hn (by rw [hYs] at hrow; simpa using hrow) cf
        have HN : Hid (∀ W, RowL g (P' ++ Y.drop d ++ Y.take d ++ X ++ S') W → ∃ P' X Y S', i = X.length ∧ d = Y.length ∧ 1 ≤ X.length ∧ 1 ≤ Y.length ∧ P'.length + X.length = m ∧ m + Y.length ≤ N ∧ P' ++ Y ++ X ++ S' = T ∧ RowL g (P' ++ X ++ Y ++ S') W) := fun W hW => ⟨P', Y.drop d, Y.take d, X ++ S', l2.symm, l1.symm, by omega, by omega, by omega, by omega, by rw [← hTT2]; simp, by simpa using hW⟩
        clear hX hY hX1 hY1 hPm hmY hrow hq hd hYs l1 l2 hr' hTT2
        go_wp2_with (go_at_call 135; refine (sw _).mono ?_; rintro e w2 ⟨rfl, hr2, hb2⟩)
        go_roundw
        case rel => exact ⟨i, d, rfl, rfl, hi, by omega, HN.out _ hr2, hbw.trans hb2⟩
        case measure => simp [intOf]; omega
end Go.Proofs.YtdbifbgjbfnfmaaDoor
/-
  Layer 4 (label): two runs of labels become one, plain. No program is named.
-/
namespace Go.Proofs.YtdbifbgjbfnfmaaDoor
open Go.RowKit Go.Deep
set_option linter.unusedVariables false

/-- The label at place i. -/
def atN (l : List Lab) (i : Nat) : Lab := l.getD i ([], [])
theorem atN_get {l : List Lab} {i : Nat} (h : i < l.length) : atN l i = l[i] := by simp [atN, List.getD, h]
theorem atN_left {A B : List Lab} {i : Nat} (h : i < A.length) : atN (A ++ B) i = atN A i := by simp [atN, List.getD, List.getElem?_append_left h]
theorem atN_right {A B : List Lab} {i : Nat} (h : A.length ≤ i) : atN (A ++ B) i = atN B (i - A.length) := by simp [atN, List.getD, List.getElem?_append_right h]
theorem sorted_at {A : List Lab} (h : SortedN A) {i j : Nat} (hij : i ≤ j) (hj : j < A.length) : ltN (atN A j) (atN A i) = false := by
  rw [atN_get hj, atN_get (by omega)]
  by_cases he : i = j
  · subst he; exact ltN_irrefl _
  · exact List.pairwise_iff_getElem.1 h i j (by omega) hj (by omega)
theorem mem_take_at {A : List Lab} {k : Nat} {x : Lab} (h : x ∈ A.take k) : ∃ i, i < k ∧ i < A.length ∧ atN A i = x := by
  obtain ⟨i, hi, e⟩ := List.getElem_of_mem h
  rw [List.length_take] at hi
  rw [List.getElem_take] at e
  exact ⟨i, by omega, by omega, by rw [atN_get (by omega)]; exact e⟩
theorem mem_drop_at {A : List Lab} {k : Nat} {x : Lab} (h : x ∈ A.drop k) : ∃ i, k ≤ i ∧ i < A.length ∧ atN A i = x := by
  obtain ⟨i, hi, e⟩ := List.getElem_of_mem h
  rw [List.length_drop] at hi
  rw [List.getElem_drop] at e
  exact ⟨k + i, by omega, by omega, by rw [atN_get (by omega)]; exact e⟩
/-- Two halves, each in order, make the whole. -/
theorem merge_end {A C D1 D2 : List Lab} {s t : Nat} (hA : SortedN A) (hC : SortedN C) (h1 : s < A.length → 1 ≤ t → ltN (atN C (t - 1)) (atN A s) = true) (h2 : 1 ≤ s → t < C.length → ltN (atN C t) (atN A (s - 1)) = false) (hs : s ≤ A.length) (ht : t ≤ C.length)
    (d1 : SortedN D1) (e1 : Stb D1 (A.take s ++ C.take t)) (d2 : SortedN D2) (e2 : Stb D2 (A.drop s ++ C.drop t)) : SortedN (D1 ++ D2) ∧ Stb (D1 ++ D2) (A ++ C) := by
  have hvu : ∀ v ∈ C.take t, ∀ u ∈ A.drop s, ltN v u = true := by
    intro v hv u hu
    obtain ⟨i, hi, hi2, rfl⟩ := mem_take_at hv
    obtain ⟨j, hj, hj2, rfl⟩ := mem_drop_at hu
    have k1 := h1 (by omega) (by omega)
    have k2 := sorted_at hC (show i ≤ t - 1 by omega) (by omega)
    have k3 := sorted_at hA hj hj2
    exact leN_lt k2 (ltN_le k1 k3)
  constructor
  · refine List.pairwise_append.2 ⟨d1, d2, fun x hx y hy => ?_⟩
    have hx := e1.mem hx
    have hy := e2.mem hy
    rcases List.mem_append.1 hx with hx | hx
    · obtain ⟨i, hi, hi2, rfl⟩ := mem_take_at hx
      rcases List.mem_append.1 hy with hy | hy
      · obtain ⟨j, hj, hj2, rfl⟩ := mem_drop_at hy
        exact sorted_at hA (by omega) hj2
      · obtain ⟨j, hj, hj2, rfl⟩ := mem_drop_at hy
        have k1 := h2 (by omega) (by omega)
        have k2 := sorted_at hA (show i ≤ s - 1 by omega) (by omega)
        have k3 := sorted_at hC hj hj2
        exact leN_trans k2 (leN_trans k1 k3)
    · rcases List.mem_append.1 hy with hy | hy
      · exact ltN_asymm (hvu x hx y hy)
      · obtain ⟨i, hi, hi2, rfl⟩ := mem_take_at hx
        obtain ⟨j, hj, hj2, rfl⟩ := mem_drop_at hy
        exact sorted_at hC (by omega) hj2
  · have k := e1.append e2
    refine k.trans ?_
    have hsw : Stb (C.take t ++ A.drop s) (A.drop s ++ C.take t) := Stb.swap (fun x hx y hy => ltN_ne (hvu x hx y hy))
    have := Stb.append (Stb.append (Stb.refl (A.take s)) hsw) (Stb.refl (C.drop t))
    have e3 : A.take s ++ C.take t ++ (A.drop s ++ C.drop t) = A.take s ++ (C.take t ++ A.drop s) ++ C.drop t := by simp
    have e4 : A ++ C = A.take s ++ (A.drop s ++ C.take t) ++ C.drop t := by
      rw [← List.append_assoc (A.take s), List.take_append_drop, List.append_assoc, List.take_append_drop]
    rw [e3, e4]
    exact this
theorem sorted_take {A : List Lab} (h : SortedN A) (k : Nat) : SortedN (A.take k) := List.Pairwise.sublist (List.take_sublist k A) h
theorem sorted_drop {A : List Lab} (h : SortedN A) (k : Nat) : SortedN (A.drop k) := List.Pairwise.sublist (List.drop_sublist k A) h
theorem sorted_cons_drop {C : List Lab} {x : Lab} {k : Nat} (h : SortedN C) (hx : k < C.length → ltN (atN C k) x = false) : SortedN (x :: C.drop k) := by
  refine List.pairwise_cons.2 ⟨fun z hz => ?_, sorted_drop h k⟩
  obtain ⟨i, hi, hi2, rfl⟩ := mem_drop_at hz
  exact leN_trans (hx (by omega)) (sorted_at h hi hi2)
theorem sorted_take_snoc {A : List Lab} {x : Lab} {k : Nat} (h : SortedN A) (hk : k ≤ A.length) (hx : 1 ≤ k → ltN x (atN A (k - 1)) = false) : SortedN (A.take k ++ [x]) := by
  refine List.pairwise_append.2 ⟨sorted_take h k, by simp, fun y hy z hz => ?_⟩
  simp at hz; subst hz
  obtain ⟨i, hi, hi2, rfl⟩ := mem_take_at hy
  exact leN_trans (sorted_at h (show i ≤ k - 1 by omega) (by omega)) (hx (by omega))
/-- One label and a run. -/
theorem merge_first {C : List Lab} {x : Lab} {k : Nat} (hC : SortedN C) (hk : k ≤ C.length) (h1 : 1 ≤ k → ltN (atN C (k - 1)) x = true) (h2 : k < C.length → ltN (atN C k) x = false) : SortedN (C.take k ++ x :: C.drop k) ∧ Stb (C.take k ++ x :: C.drop k) ([x] ++ C) :=
  merge_end (A := [x]) (C := C) (s := 0) (t := k) (by simp [SortedN]) hC (fun _ h => h1 h) (fun h => by omega) (by simp) hk (sorted_take hC k) (by simpa using Stb.refl _) (sorted_cons_drop hC h2) (by simpa using Stb.refl _)
/-- A run and one label. -/
theorem merge_last {A : List Lab} {x : Lab} {k : Nat} (hA : SortedN A) (hk : k ≤ A.length) (h1 : 1 ≤ k → ltN x (atN A (k - 1)) = false) (h2 : k < A.length → ltN x (atN A k) = true) : SortedN (A.take k ++ x :: A.drop k) ∧ Stb (A.take k ++ x :: A.drop k) (A ++ [x]) := by
  have := merge_end (A := A) (C := [x]) (s := k) (t := 1) (D1 := A.take k ++ [x]) (D2 := A.drop k) hA (by simp [SortedN]) (fun h _ => h2 h) (fun _ h => by simp at h) hk (by simp) (sorted_take_snoc hA hk h1) (by simpa using Stb.refl _) (sorted_drop hA k) (by simpa using Stb.refl _)
  simpa using this
end Go.Proofs.YtdbifbgjbfnfmaaDoor
/-
  Layer 4 (label): two runs in a row of labels become one: where one of them is a single label.
-/
namespace Go.Proofs.YtdbifbgjbfnfmaaDoor
open Go.RowKit Go.Deep
attribute [local go_sem] str_size str_append str_toList str_get str_extract
set_option linter.unusedVariables false
set_option linter.unusedSimpArgs false
theorem RowL.gat {g : Nat} {l : List Lab} {w : World} (h : RowL g l w) {i : Nat} (hi : i < l.length) (x : Lab) (hx : atN l i = x) :
    w.cell? ⟨g, i * 2, none⟩ = some (.string (str x.1)) ∧ w.cell? ⟨g, i * 2 + 1, none⟩ = some (.string (str x.2)) := by
  rw [atN_get hi] at hx
  subst hx
  obtain ⟨cur, h1, h2, h3⟩ := h
  have := h3 i hi
  refine ⟨?_, ?_⟩
  · rw [blk_cell h1, Nat.mul_comm]; exact this.1
  · rw [blk_cell h1, Nat.mul_comm]; exact this.2
theorem half_eq (i j h : Nat) (hh : h = (i + j) / 2) : ((i : Int) + (j : Int)) / 2 = (h : Int) := by omega
theorem put_two {g : Nat} {D E : List Lab} {x y : Lab} {w : World} (h : RowL g (D ++ y :: x :: E) w) (k : Nat) (hk : k = D.length) :
    RowL g (D ++ x :: y :: E) ((((w.setCell ⟨g, (k + 1) * 2, none⟩ (.string (str y.1))).setCell ⟨g, (k + 1) * 2 + 1, none⟩ (.string (str y.2))).setCell ⟨g, k * 2, none⟩ (.string (str x.1))).setCell ⟨g, k * 2 + 1, none⟩ (.string (str x.2))) := by
  have hp1 := RowL.put (g := g) (D := D ++ [y]) (x := x) (E := E) (w := w) (by simpa using h) y (k + 1) (by simp; omega)
  exact RowL.put (g := g) (D := D) (x := y) (E := y :: E) (by simpa using hp1) x k hk
theorem put_two' {g : Nat} {D E : List Lab} {x y : Lab} {w : World} (h : RowL g (D ++ y :: x :: E) w) (k : Nat) (hk : k = D.length) :
    RowL g (D ++ x :: y :: E) ((((w.setCell ⟨g, k * 2, none⟩ (.string (str x.1))).setCell ⟨g, k * 2 + 1, none⟩ (.string (str x.2))).setCell ⟨g, (k + 1) * 2, none⟩ (.string (str y.1))).setCell ⟨g, (k + 1) * 2 + 1, none⟩ (.string (str y.2))) := by
  have hp1 := RowL.put (g := g) (D := D) (x := y) (E := x :: E) (w := w) h x k hk
  have hp2 := RowL.put (g := g) (D := D ++ [x]) (x := x) (E := E) (by simpa using hp1) y (k + 1) (by simp; omega)
  simpa using hp2
theorem below_four {B g : Nat} {w w' : World} (h : Below B w w') (hg : B ≤ g) (a b c d : Nat) (v1 v2 v3 v4 : Value) : Below B w ((((w'.setCell ⟨g, a, none⟩ v1).setCell ⟨g, b, none⟩ v2).setCell ⟨g, c, none⟩ v3).setCell ⟨g, d, none⟩ v4) :=
  (((h.setCell (p := ⟨g, a, none⟩) hg _).setCell (p := ⟨g, b, none⟩) hg _).setCell (p := ⟨g, c, none⟩) hg _).setCell (p := ⟨g, d, none⟩) hg _
set_option maxHeartbeats 4000000 in
set_option maxRecDepth 100000 in
theorem symm_one (g B N cap a m b : Nat) (P C S : List Lab) (x : Lab) (w : World) (hg : B ≤ g) (hB : B ≤ w.heap.size) (ha : a = P.length) (hm : m = a + 1) (hb : b = m + C.length) (hC1 : 1 ≤ C.length) (hC : SortedN C) (hN : b ≤ N) (hn : N ≤ 4096) (hr : RowL g (P ++ x :: (C ++ S)) w) :
    Calls Tryd.prog 121 #[.slice (some ⟨g, 0, none⟩) N cap, .int .i64 (a : Int), .int .i64 (m : Int), .int .i64 (b : Int), .func (.func 80) #[] #[]] w fun e w' => e = .returned (.tuple #[]) ∧ (∃ D, RowL g (P ++ D ++ S) w' ∧ SortedN D ∧ Stb D ([x] ++ C) ∧ D.length = C.length + 1) ∧ Below B w w' := by
  have HA := Lib.hid (And.intro ha (And.intro hm hb))
  have em1 : (m : Int) - (a : Int) = 1 := by omega
  have hmb : m ≤ b := by omega
  have ham : a < m := by omega
  have hma : m ≤ a + 1 := by omega
  have HR0 := Lib.hid hr
  clear hr ha hm hb
  go_enter Tryd.func121, Tryd.ntmps121
  go_wp2_with fail
  go_loopw [10, 11] (fun c d wr => ∃ i j : Nat, c = .int .i64 i ∧ d = .int .i64 j ∧ m ≤ i ∧ i ≤ j ∧ j ≤ b ∧ RowL g (P ++ x :: (C ++ S)) wr ∧ Hid ((m < i → ltN (atN C (i - 1 - m)) x = true) ∧ (j < b → ltN (atN C (j - m)) x = false)) ∧ Below B w wr) (fun c d _ => (intOf d).toNat - (intOf c).toNat)
  case atStart => exact ⟨m, b, rfl, rfl, by omega, by omega, by omega, HR0.out, ⟨fun h => by omega, fun h => by omega⟩, Below.refl _ _⟩
  case round =>
    obtain ⟨i, j, rfl, rfl, hmi, hij, hjb, hrow, HI, hbw⟩ := hrel
    by_cases hlt : i < j
    · obtain ⟨h, hh⟩ : ∃ h, h = (i + j) / 2 := ⟨_, rfl⟩
      have eh := half_eq i j h hh
      have hih : i ≤ h := by omega
      have hhj : h < j := by omega
      obtain ⟨y, hy⟩ : ∃ y, atN C (h - m) = y := ⟨_, rfl⟩
      have hyl : atN (P ++ x :: (C ++ S)) h = y := by
        have h1 := HA.out
        rw [atN_right (by omega), show x :: (C ++ S) = [x] ++ (C ++ S) from rfl, atN_right (by simp; omega), atN_left (by simp; omega), ← hy]
        congr 1
        simp; omega
      have hxl : atN (P ++ x :: (C ++ S)) a = x := by
        have h1 := HA.out
        rw [atN_right (by omega), show x :: (C ++ S) = [x] ++ (C ++ S) from rfl, atN_left (by simp; omega), h1.1, Nat.sub_self]; rfl
      have hll : (P ++ x :: (C ++ S)).length = a + 1 + C.length + S.length := by have h1 := HA.out; simp; omega
      have hS : ∀ W, Below wr.heap.size wr W → W.cell? ⟨g, h * 2, none⟩ = some (.string (str y.1)) ∧ W.cell? ⟨g, h * 2 + 1, none⟩ = some (.string (str y.2)) ∧ W.cell? ⟨g, a * 2, none⟩ = some (.string (str x.1)) ∧ W.cell? ⟨g, a * 2 + 1, none⟩ = some (.string (str x.2)) ∧ Below wr.heap.size wr W := by
        intro W hW
        have hrW := hrow.below hW
        have h1 := HA.out
        obtain ⟨y0, y1⟩ := hrW.gat (i := h) (by rw [hll]; omega) y hyl
        obtain ⟨x0, x1⟩ := hrW.gat (i := a) (by rw [hll]; omega) x hxl
        exact ⟨y0, y1, x0, x1, hW⟩
      have HS := Lib.hid hS
      have cc := fun W => cmp_c y x W
      obtain ⟨c, hc⟩ : ∃ c, cmpN y x = c := ⟨_, rfl⟩
      rw [hc] at cc
      have HC := Lib.hid hc
      have HY := Lib.hid hy
      have HROW := Lib.hid hrow
      have ih : (0 : Int) ≤ (h : Int) ∧ (h : Int) < (N : Int) := by omega
      have ia : (0 : Int) ≤ (a : Int) ∧ (a : Int) < (N : Int) := by omega
      clear hS hc hrow hyl hxl hll hh hy
      go_wp2_with fail
      refine wp_region_held_drew (S := fun W => W.cell? ⟨g, h * 2, none⟩ = some (.string (str y.1)) ∧ W.cell? ⟨g, h * 2 + 1, none⟩ = some (.string (str y.2)) ∧ W.cell? ⟨g, a * 2, none⟩ = some (.string (str x.1)) ∧ W.cell? ⟨g, a * 2 + 1, none⟩ = some (.string (str x.2)) ∧ Below wr.heap.size wr W) (by kernel_rfl) (HS.out _ ((Below.refl _ _).drew)) (fun hHeld => ?_)
      refine held_w (i := 0) (d := some 40) (v := ?_) rfl (by kernel_rfl) (by kernel_rfl) (by kernel_rfl) (fun _ _ _ h => h) (by rfl) ?_ hHeld ?_
      rotate_left
      · intro w' hSw; obtain ⟨q0, q1, q2, q3, q4⟩ := hSw; simp only [List.getElem?_toArray, List.getElem?_cons_zero, List.getElem?_cons_succ]; go_simp; try with_reducible rfl
      try simp only [Act.put, List.setIfInBounds_toArray, List.set_cons_zero, List.set_cons_succ]
      refine held_w (i := 1) (d := some 41) (v := ?_) rfl (by kernel_rfl) (by kernel_rfl) (by kernel_rfl) (fun _ _ _ h => h) (by rfl) ?_ hHeld ?_
      rotate_left
      · intro w' hSw; obtain ⟨q0, q1, q2, q3, q4⟩ := hSw; simp only [List.getElem?_toArray, List.getElem?_cons_zero, List.getElem?_cons_succ]; go_simp; try with_reducible rfl
      try simp only [Act.put, List.setIfInBounds_toArray, List.set_cons_zero, List.set_cons_succ]
      refine held_w (i := 2) (d := some 42) (v := ?_) rfl (by kernel_rfl) (by kernel_rfl) (by kernel_rfl) (fun _ _ _ h => h) (by rfl) ?_ hHeld ?_
      rotate_left
      · intro w' hSw; obtain ⟨q0, q1, q2, q3, q4⟩ := hSw; simp only [List.getElem?_toArray, List.getElem?_cons_zero, List.getElem?_cons_succ]; go_simp; try with_reducible rfl
      try simp only [Act.put, List.setIfInBounds_toArray, List.set_cons_zero, List.set_cons_succ]
      refine held_w (i := 3) (d := some 43) (v := ?_) rfl (by kernel_rfl) (by kernel_rfl) (by kernel_rfl) (fun _ _ _ h => h) (by rfl) ?_ hHeld ?_
      rotate_left
      · intro w' hSw; obtain ⟨q0, q1, q2, q3, q4⟩ := hSw; simp only [List.getElem?_toArray, List.getElem?_cons_zero, List.getElem?_cons_succ]; go_simp; try with_reducible rfl
      try simp only [Act.put, List.setIfInBounds_toArray, List.set_cons_zero, List.set_cons_succ]
      refine held_w (i := 4) (d := some 44) (v := ?_) rfl (by kernel_rfl) (by kernel_rfl) (by kernel_rfl) (fun _ _ _ h => h) (by rfl) ?_ hHeld ?_
      rotate_left
      · intro w' hSw; obtain ⟨q0, q1, q2, q3, q4⟩ := hSw; simp only [List.getElem?_toArray, List.getElem?_cons_zero, List.getElem?_cons_succ]; go_simp; try with_reducible rfl
      try simp only [Act.put, List.setIfInBounds_toArray, List.set_cons_zero, List.set_cons_succ]
      refine held_w (i := 5) (d := some 45) (v := ?_) rfl (by kernel_rfl) (by kernel_rfl) (by kernel_rfl) (fun _ _ _ h => h) (by rfl) ?_ hHeld ?_
      rotate_left
      · intro w' hSw; obtain ⟨q0, q1, q2, q3, q4⟩ := hSw; simp only [List.getElem?_toArray, List.getElem?_cons_zero, List.getElem?_cons_succ]; go_simp; try with_reducible rfl
      try simp only [Act.put, List.setIfInBounds_toArray, List.set_cons_zero, List.set_cons_succ]
      refine held_w (i := 6) (d := some 46) (v := ?_) rfl (by kernel_rfl) (by kernel_rfl) (by kernel_rfl) (fun _ _ _ h => h) (by rfl) ?_ hHeld ?_
      rotate_left
      · intro w' hSw; obtain ⟨q0, q1, q2, q3, q4⟩ := hSw; simp only [List.getElem?_toArray, List.getElem?_cons_zero, List.getElem?_cons_succ]; go_simp; try with_reducible rfl
      try simp only [Act.put, List.setIfInBounds_toArray, List.set_cons_zero, List.set_cons_succ]
      refine held_w (i := 7) (d := some 47) (v := ?_) rfl (by kernel_rfl) (by kernel_rfl) (by kernel_rfl) (fun _ _ _ h => h) (by rfl) ?_ hHeld ?_
      rotate_left
      · intro w' hSw; obtain ⟨q0, q1, q2, q3, q4⟩ := hSw; simp only [List.getElem?_toArray, List.getElem?_cons_zero, List.getElem?_cons_succ]; go_simp; try with_reducible rfl
      try simp only [Act.put, List.setIfInBounds_toArray, List.set_cons_zero, List.set_cons_succ]
      refine held_w (i := 8) (d := some 48) (v := ?_) rfl (by kernel_rfl) (by kernel_rfl) (by kernel_rfl) (fun _ _ _ h => h) (by rfl) ?_ hHeld ?_
      rotate_left
      · intro w' hSw; obtain ⟨q0, q1, q2, q3, q4⟩ := hSw; simp only [List.getElem?_toArray, List.getElem?_cons_zero, List.getElem?_cons_succ]; go_simp; try with_reducible rfl
      try simp only [Act.put, List.setIfInBounds_toArray, List.set_cons_zero, List.set_cons_succ]
      refine held_c (i := 9) (by kernel_rfl) (by rfl) (fun K hK => ?_)
      simp only [List.getElem?_toArray, List.getElem?_cons_zero, List.getElem?_cons_succ]
      go_simp
      refine (cc _).mono ?_
      rintro e w3 ⟨rfl, hb3⟩
      have hb4 := hHeld.2.2.2.2.trans (hb3.mono hHeld.2.2.2.2.size)
      refine hK.out _ _ (HS.out _ hb4) (fun hHeld => ?_)
      clear hK hb3
      try simp only [Act.put, List.setIfInBounds_toArray, List.set_cons_zero, List.set_cons_succ]
      refine held_w (i := 10) (d := some 50) (v := ?_) rfl (by kernel_rfl) (by kernel_rfl) (by kernel_rfl) (fun _ _ _ h => h) (by rfl) ?_ hHeld ?_
      rotate_left
      · intro w' hSw; obtain ⟨q0, q1, q2, q3, q4⟩ := hSw; simp only [List.getElem?_toArray, List.getElem?_cons_zero, List.getElem?_cons_succ]; go_simp; try with_reducible rfl
      try simp only [Act.put, List.setIfInBounds_toArray, List.set_cons_zero, List.set_cons_succ]
      refine wpAnyH_done (by kernel_rfl) ?_ _
      skip
      have hbq := hHeld.2.2.2.2
      have hrW := Lib.hid (HROW.out.below hbq)
      have hbB : Below B w w3 := hbw.trans (hbq.mono (by have := hbw.size; omega))
      clear hHeld hb4 hbq
      cases hlt2 : ltN y x with
      | true =>
        have hcl : c < 0 := by rw [← HC.out]; exact cmpN_lt hlt2
        have HI2 : Hid ((m < h + 1 → ltN (atN C (h + 1 - 1 - m)) x = true) ∧ (j < b → ltN (atN C (j - m)) x = false)) := ⟨fun _ => by rw [Nat.add_sub_cancel, HY.out]; exact hlt2, HI.out.2⟩
        clear hlt2
        go_wp2_with fail
        go_roundw
        case rel => exact ⟨h + 1, j, by go_num, rfl, by omega, by omega, hjb, hrW.out, HI2.out, hbB⟩
        case measure => simp [intOf]; omega
      | false =>
        have hcl : ¬ c < 0 := by rw [← HC.out]; exact cmpN_ge hlt2
        have HI2 : Hid ((m < i → ltN (atN C (i - 1 - m)) x = true) ∧ (h < b → ltN (atN C (h - m)) x = false)) := ⟨HI.out.1, fun _ => by rw [HY.out]; exact hlt2⟩
        clear hlt2
        go_wp2_with fail
        go_roundw
        case rel => exact ⟨i, h, rfl, rfl, hmi, by omega, by omega, hrW.out, HI2.out, hbB⟩
        case measure => simp [intOf]; omega
    · obtain rfl : i = j := by omega
      obtain ⟨k0, hk0⟩ : ∃ k0, k0 = i - m := ⟨_, rfl⟩
      have hkC : k0 ≤ C.length := by have h1 := HA.out; omega
      have hmf := merge_first (x := x) hC hkC (fun h => by have := HI.out.1 (by omega); rw [show k0 - 1 = i - 1 - m by omega]; exact this) (fun h => by have h1 := HA.out; have := HI.out.2 (by omega); rw [hk0]; exact this)
      have HMF := Lib.hid hmf
      have hCs : C = C.take k0 ++ C.drop k0 := (List.take_append_drop k0 C).symm
      obtain ⟨C1, hC1e⟩ : ∃ C1, C.take k0 = C1 := ⟨_, rfl⟩
      obtain ⟨C2, hC2e⟩ : ∃ C2, C.drop k0 = C2 := ⟨_, rfl⟩
      have hC1l : C1.length = k0 := by rw [← hC1e, List.length_take]; omega
      have hCC : C.length = k0 + C2.length := by rw [← hC2e, List.length_drop]; omega
      rw [hC1e, hC2e] at hCs HMF
      rw [hCs] at hrow
      have HROW := Lib.hid (show RowL g (P ++ C1.take 0 ++ x :: (C1.drop 0 ++ C2 ++ S)) wr by simpa using hrow)
      have hs1 := hbw.size
      have hi1 : 1 ≤ i := by omega
      have ei : (i : Int) - 1 = ((i - 1 : Nat) : Int) := by omega
      obtain ⟨i1, hi1e⟩ : ∃ i1, i1 = i - 1 := ⟨_, rfl⟩
      rw [← hi1e] at ei
      have hai : a + k0 = i1 := by omega
      have hiN : i1 < N := by omega
      clear hmf hC1e hC2e hCs hrow HI hk0 hi1e em1
      go_wp2_with fail
      obtain ⟨wo, rfl⟩ : ∃ wo : World, wo = wr := ⟨_, rfl⟩
      go_loopw [13] (fun c wr => ∃ t : Nat, c = .int .i64 ((a + t : Nat) : Int) ∧ t ≤ k0 ∧ RowL g (P ++ C1.take t ++ x :: (C1.drop t ++ C2 ++ S)) wr ∧ Below B w wr) (fun c _ => i1 - (intOf c).toNat)
      case atStart => exact ⟨0, by simp, by omega, HROW.out, hbw⟩
      case round =>
        obtain ⟨t, rfl, ht, hrow, hbr⟩ := hrel
        obtain ⟨u, hu⟩ : ∃ u, u = a + t := ⟨_, rfl⟩
        rw [← hu]
        by_cases htk : t < k0
        · obtain ⟨z, hz⟩ : ∃ z, C1[t]'(by omega) = z := ⟨_, rfl⟩
          have e1 : C1.drop t = z :: C1.drop (t + 1) := by rw [List.drop_eq_getElem_cons (by omega), hz]
          have e2 : C1.take (t + 1) = C1.take t ++ [z] := by rw [List.take_succ_eq_append_getElem (by omega), hz]
          rw [e1] at hrow
          have hrow' : RowL g ((P ++ C1.take t) ++ x :: z :: (C1.drop (t + 1) ++ C2 ++ S)) wr := by simpa using hrow
          have hDl : u = (P ++ C1.take t).length := by have h1 := HA.out; simp; omega
          obtain ⟨y0, y1, fy0, fy1⟩ := hrow'.get u hDl
          obtain ⟨x0, x1, fx0, fx1⟩ := RowL.get (g := g) (D := (P ++ C1.take t) ++ [x]) (x := z) (E := C1.drop (t + 1) ++ C2 ++ S) (w := wr) (by simpa using hrow') (u + 1) (by simp at hDl ⊢; omega)
          have iu : (0 : Int) ≤ (u : Int) ∧ (u : Int) < (N : Int) := by omega
          have iv : (0 : Int) ≤ (u : Int) + 1 ∧ (u : Int) + 1 < (N : Int) := by omega
          have wu : IntKind.i64.wrap ((u : Int) + 1) = (u : Int) + 1 := IntWalk.i64_in _ (by omega)
          have hui : (u : Int) < (i1 : Int) := by omega
          have HP2 := Lib.hid (fun W (hW : RowL g ((P ++ C1.take t) ++ x :: z :: (C1.drop (t + 1) ++ C2 ++ S)) W) => put_two' hW u hDl)
          have HRR := Lib.hid hrow'
          have HE2 : Hid (P ++ C1.take t ++ z :: x :: (C1.drop (t + 1) ++ C2 ++ S) = P ++ C1.take (t + 1) ++ x :: (C1.drop (t + 1) ++ C2 ++ S)) := by show _ = _; rw [e2]; simp
          have HU := Lib.hid hu
          have hua : a ≤ u := by omega
          clear e1 e2 hz hrow hrow' hDl hu
          go_wp2_with fail
          refine wp_region_held_drew (S := fun _ => True) (by kernel_rfl) trivial (fun hHeld => ?_)
          refine held_w (i := 0) (d := some 61) (v := ?_) rfl (by kernel_rfl) (by kernel_rfl) (by kernel_rfl) (fun _ _ _ h => h) (by rfl) ?_ hHeld ?_
          rotate_left
          · intro w' hSw; obtain ⟨q0⟩ := hSw; simp only [List.getElem?_toArray, List.getElem?_cons_zero, List.getElem?_cons_succ]; go_simp; try with_reducible rfl
          try simp only [Act.put, List.setIfInBounds_toArray, List.set_cons_zero, List.set_cons_succ]
          refine held_w (i := 1) (d := some 62) (v := ?_) rfl (by kernel_rfl) (by kernel_rfl) (by kernel_rfl) (fun _ _ _ h => h) (by rfl) ?_ hHeld ?_
          rotate_left
          · intro w' hSw; obtain ⟨q0⟩ := hSw; simp only [List.getElem?_toArray, List.getElem?_cons_zero, List.getElem?_cons_succ]; go_simp; try with_reducible rfl
          try simp only [Act.put, List.setIfInBounds_toArray, List.set_cons_zero, List.set_cons_succ]
          refine held_w (i := 2) (d := some 63) (v := ?_) rfl (by kernel_rfl) (by kernel_rfl) (by kernel_rfl) (fun _ _ _ h => h) (by rfl) ?_ hHeld ?_
          rotate_left
          · intro w' hSw; obtain ⟨q0⟩ := hSw; simp only [List.getElem?_toArray, List.getElem?_cons_zero, List.getElem?_cons_succ]; go_simp; try with_reducible rfl
          try simp only [Act.put, List.setIfInBounds_toArray, List.set_cons_zero, List.set_cons_succ]
          refine held_w (i := 3) (d := some 64) (v := ?_) rfl (by kernel_rfl) (by kernel_rfl) (by kernel_rfl) (fun _ _ _ h => h) (by rfl) ?_ hHeld ?_
          rotate_left
          · intro w' hSw; obtain ⟨q0⟩ := hSw; simp only [List.getElem?_toArray, List.getElem?_cons_zero, List.getElem?_cons_succ]; go_simp; try with_reducible rfl
          try simp only [Act.put, List.setIfInBounds_toArray, List.set_cons_zero, List.set_cons_succ]
          refine held_w (i := 4) (d := some 65) (v := ?_) rfl (by kernel_rfl) (by kernel_rfl) (by kernel_rfl) (fun _ _ _ h => h) (by rfl) ?_ hHeld ?_
          rotate_left
          · intro w' hSw; obtain ⟨q0⟩ := hSw; simp only [List.getElem?_toArray, List.getElem?_cons_zero, List.getElem?_cons_succ]; go_simp; try with_reducible rfl
          try simp only [Act.put, List.setIfInBounds_toArray, List.set_cons_zero, List.set_cons_succ]
          refine held_w (i := 5) (d := some 66) (v := ?_) rfl (by kernel_rfl) (by kernel_rfl) (by kernel_rfl) (fun _ _ _ h => h) (by rfl) ?_ hHeld ?_
          rotate_left
          · intro w' hSw; obtain ⟨q0⟩ := hSw; simp only [List.getElem?_toArray, List.getElem?_cons_zero, List.getElem?_cons_succ]; go_simp; try with_reducible rfl
          try simp only [Act.put, List.setIfInBounds_toArray, List.set_cons_zero, List.set_cons_succ]
          refine held_w (i := 6) (d := some 67) (v := ?_) rfl (by kernel_rfl) (by kernel_rfl) (by kernel_rfl) (fun _ _ _ h => h) (by rfl) ?_ hHeld ?_
          rotate_left
          · intro w' hSw; obtain ⟨q0⟩ := hSw; simp only [List.getElem?_toArray, List.getElem?_cons_zero, List.getElem?_cons_succ]; go_simp; try with_reducible rfl
          try simp only [Act.put, List.setIfInBounds_toArray, List.set_cons_zero, List.set_cons_succ]
          refine held_w (i := 7) (d := some 68) (v := ?_) rfl (by kernel_rfl) (by kernel_rfl) (by kernel_rfl) (fun _ _ _ h => h) (by rfl) ?_ hHeld ?_
          rotate_left
          · intro w' hSw; obtain ⟨q0⟩ := hSw; simp only [List.getElem?_toArray, List.getElem?_cons_zero, List.getElem?_cons_succ]; go_simp; try with_reducible rfl
          try simp only [Act.put, List.setIfInBounds_toArray, List.set_cons_zero, List.set_cons_succ]
          refine held_w (i := 8) (d := some 69) (v := ?_) rfl (by kernel_rfl) (by kernel_rfl) (by kernel_rfl) (fun _ _ _ h => h) (by rfl) ?_ hHeld ?_
          rotate_left
          · intro w' hSw; obtain ⟨q0⟩ := hSw; simp only [List.getElem?_toArray, List.getElem?_cons_zero, List.getElem?_cons_succ]; go_simp; try with_reducible rfl
          try simp only [Act.put, List.setIfInBounds_toArray, List.set_cons_zero, List.set_cons_succ]
          refine held_w (i := 10) (d := some 71) (v := ?_) rfl (by kernel_rfl) (by kernel_rfl) (by kernel_rfl) (fun _ _ _ h => h) (by rfl) ?_ hHeld ?_
          rotate_left
          · intro w' hSw; obtain ⟨q0⟩ := hSw; simp only [List.getElem?_toArray, List.getElem?_cons_zero, List.getElem?_cons_succ]; go_simp; try with_reducible rfl
          try simp only [Act.put, List.setIfInBounds_toArray, List.set_cons_zero, List.set_cons_succ]
          refine held_w (i := 11) (d := some 72) (v := ?_) rfl (by kernel_rfl) (by kernel_rfl) (by kernel_rfl) (fun _ _ _ h => h) (by rfl) ?_ hHeld ?_
          rotate_left
          · intro w' hSw; obtain ⟨q0⟩ := hSw; simp only [List.getElem?_toArray, List.getElem?_cons_zero, List.getElem?_cons_succ]; go_simp; try with_reducible rfl
          try simp only [Act.put, List.setIfInBounds_toArray, List.set_cons_zero, List.set_cons_succ]
          refine held_w (i := 12) (d := some 73) (v := ?_) rfl (by kernel_rfl) (by kernel_rfl) (by kernel_rfl) (fun _ _ _ h => h) (by rfl) ?_ hHeld ?_
          rotate_left
          · intro w' hSw; obtain ⟨q0⟩ := hSw; simp only [List.getElem?_toArray, List.getElem?_cons_zero, List.getElem?_cons_succ]; go_simp; try with_reducible rfl
          try simp only [Act.put, List.setIfInBounds_toArray, List.set_cons_zero, List.set_cons_succ]
          refine held_many (rs := [9, 13]) (by kernel_rfl) (by simp) ⟨?_, ?_, trivial⟩
          · refine ⟨by rfl, fun K hK => ?_⟩
            simp only [List.getElem?_toArray, List.getElem?_cons_zero, List.getElem?_cons_succ]
            go_simp
            refine hK.out _ _ trivial (fun hHeld => ?_)
            clear hK K
            try simp only [Act.put, List.setIfInBounds_toArray, List.set_cons_zero, List.set_cons_succ]
            refine held_c (i := 13) (by kernel_rfl) (by rfl) (fun K hK => ?_)
            simp only [List.getElem?_toArray, List.getElem?_cons_zero, List.getElem?_cons_succ]
            go_simp
            refine hK.out _ _ trivial (fun hHeld => ?_)
            clear hK K
            try simp only [Act.put, List.setIfInBounds_toArray, List.set_cons_zero, List.set_cons_succ]
            refine held_w (i := 14) (d := some 75) (v := ?_) rfl (by kernel_rfl) (by kernel_rfl) (by kernel_rfl) (fun _ _ _ h => h) (by rfl) ?_ hHeld ?_
            rotate_left
            · intro w' hSw; obtain ⟨q0⟩ := hSw; simp only [List.getElem?_toArray, List.getElem?_cons_zero, List.getElem?_cons_succ]; go_simp; try with_reducible rfl
            try simp only [Act.put, List.setIfInBounds_toArray, List.set_cons_zero, List.set_cons_succ]
            refine held_c (i := 15) (by kernel_rfl) (by rfl) (fun K hK => ?_)
            simp only [List.getElem?_toArray, List.getElem?_cons_zero, List.getElem?_cons_succ]
            go_simp
            refine hK.out _ _ trivial (fun hHeld => ?_)
            clear hK K
            try simp only [Act.put, List.setIfInBounds_toArray, List.set_cons_zero, List.set_cons_succ]
            refine held_w (i := 16) (d := some 76) (v := ?_) rfl (by kernel_rfl) (by kernel_rfl) (by kernel_rfl) (fun _ _ _ h => h) (by rfl) ?_ hHeld ?_
            rotate_left
            · intro w' hSw; obtain ⟨q0⟩ := hSw; simp only [List.getElem?_toArray, List.getElem?_cons_zero, List.getElem?_cons_succ]; go_simp; try with_reducible rfl
            try simp only [Act.put, List.setIfInBounds_toArray, List.set_cons_zero, List.set_cons_succ]
            refine held_c (i := 17) (by kernel_rfl) (by rfl) (fun K hK => ?_)
            simp only [List.getElem?_toArray, List.getElem?_cons_zero, List.getElem?_cons_succ]
            go_simp
            refine hK.out _ _ trivial (fun hHeld => ?_)
            clear hK K
            try simp only [Act.put, List.setIfInBounds_toArray, List.set_cons_zero, List.set_cons_succ]
            refine wpAnyH_done (by kernel_rfl) ?_ _
            have hp := HP2.out _ HRR.out
            rw [HE2.out] at hp
            have hbf := below_four hbr hg (u * 2) (u * 2 + 1) ((u + 1) * 2) ((u + 1) * 2 + 1) (.string (str z.1)) (.string (str z.2)) (.string (str x.1)) (.string (str x.2))
            have HPP := Lib.hid hp
            clear hp hHeld y0 y1 fy0 fy1 x0 x1 fx0 fx1
            generalize (((wr.setCell ⟨g, u * 2, none⟩ (.string (str z.1))).setCell ⟨g, u * 2 + 1, none⟩ (.string (str z.2))).setCell ⟨g, (u + 1) * 2, none⟩ (.string (str x.1))).setCell ⟨g, (u + 1) * 2 + 1, none⟩ (.string (str x.2)) = wz at *
            go_wp2_with fail
            go_roundw
            case rel => exact ⟨t + 1, by rw [HU.out]; simp; omega, by omega, HPP.out.drew, hbf.drew⟩
            case measure => simp [intOf]; omega
          · refine ⟨by rfl, fun K hK => ?_⟩
            simp only [List.getElem?_toArray, List.getElem?_cons_zero, List.getElem?_cons_succ]
            go_simp
            refine hK.out _ _ trivial (fun hHeld => ?_)
            clear hK K
            try simp only [Act.put, List.setIfInBounds_toArray, List.set_cons_zero, List.set_cons_succ]
            refine held_c (i := 9) (by kernel_rfl) (by rfl) (fun K hK => ?_)
            simp only [List.getElem?_toArray, List.getElem?_cons_zero, List.getElem?_cons_succ]
            go_simp
            refine hK.out _ _ trivial (fun hHeld => ?_)
            clear hK K
            try simp only [Act.put, List.setIfInBounds_toArray, List.set_cons_zero, List.set_cons_succ]
            refine held_w (i := 14) (d := some 75) (v := ?_) rfl (by kernel_rfl) (by kernel_rfl) (by kernel_rfl) (fun _ _ _ h => h) (by rfl) ?_ hHeld ?_
            rotate_left
            · intro w' hSw; obtain ⟨q0⟩ := hSw; simp only [List.getElem?_toArray, List.getElem?_cons_zero, List.getElem?_cons_succ]; go_simp; try with_reducible rfl
            try simp only [Act.put, List.setIfInBounds_toArray, List.set_cons_zero, List.set_cons_succ]
            refine held_c (i := 15) (by kernel_rfl) (by rfl) (fun K hK => ?_)
            simp only [List.getElem?_toArray, List.getElem?_cons_zero, List.getElem?_cons_succ]
            go_simp
            refine hK.out _ _ trivial (fun hHeld => ?_)
            clear hK K
            try simp only [Act.put, List.setIfInBounds_toArray, List.set_cons_zero, List.set_cons_succ]
            refine held_w (i := 16) (d := some 76) (v := ?_) rfl (by kernel_rfl) (by kernel_rfl) (by kernel_rfl) (fun _ _ _ h => h) (by rfl) ?_ hHeld ?_
            rotate_left
            · intro w' hSw; obtain ⟨q0⟩ := hSw; simp only [List.getElem?_toArray, List.getElem?_cons_zero, List.getElem?_cons_succ]; go_simp; try with_reducible rfl
            try simp only [Act.put, List.setIfInBounds_toArray, List.set_cons_zero, List.set_cons_succ]
            refine held_c (i := 17) (by kernel_rfl) (by rfl) (fun K hK => ?_)
            simp only [List.getElem?_toArray, List.getElem?_cons_zero, List.getElem?_cons_succ]
            go_simp
            refine hK.out _ _ trivial (fun hHeld => ?_)
            clear hK K
            try simp only [Act.put, List.setIfInBounds_toArray, List.set_cons_zero, List.set_cons_succ]
            refine wpAnyH_done (by kernel_rfl) ?_ _
            have hp := HP2.out _ HRR.out
            rw [HE2.out] at hp
            have hbf := below_four hbr hg (u * 2) (u * 2 + 1) ((u + 1) * 2) ((u + 1) * 2 + 1) (.string (str z.1)) (.string (str z.2)) (.string (str x.1)) (.string (str x.2))
            have HPP := Lib.hid hp
            clear hp hHeld y0 y1 fy0 fy1 x0 x1 fx0 fx1
            generalize (((wr.setCell ⟨g, u * 2, none⟩ (.string (str z.1))).setCell ⟨g, u * 2 + 1, none⟩ (.string (str z.2))).setCell ⟨g, (u + 1) * 2, none⟩ (.string (str x.1))).setCell ⟨g, (u + 1) * 2 + 1, none⟩ (.string (str x.2)) = wz at *
            go_wp2_with fail
            go_roundw
            case rel => exact ⟨t + 1, by rw [HU.out]; simp; omega, by omega, HPP.out.drew, hbf.drew⟩
            case measure => simp [intOf]; omega
        · obtain rfl : t = k0 := by omega
          have hnl : ¬ (u : Int) < (i1 : Int) := by omega
          clear hu
          have HF : Hid (RowL g (P ++ (C1 ++ x :: C2) ++ S) wr) := by
            show RowL _ _ _
            rw [List.take_of_length_le (by omega), List.drop_eq_nil_of_le (by omega)] at hrow
            simpa using hrow
          go_wp2_with fail
          refine bodyPost_ret (results_none rfl _ _ _) rfl ?_
          exact ⟨rfl, ⟨C1 ++ x :: C2, by simpa using HF.out, HMF.out.1, HMF.out.2, by simp; omega⟩, hbr⟩
end Go.Proofs.YtdbifbgjbfnfmaaDoor
