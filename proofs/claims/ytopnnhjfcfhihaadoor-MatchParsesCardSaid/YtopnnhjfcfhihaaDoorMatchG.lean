/-
  Layer 5 (match): what the program's guess and Parse return; all that was in memory stays.
-/
import Derived.Test.YtopnnhjfcfhihaaDoorMatchF
namespace Go.Proofs.YtopnnhjfcfhihaaDoor
open Go.RowKit Go.Deep
attribute [local go_sem] str_size str_append str_toList str_get str_extract
set_option linter.unusedVariables false
set_option linter.unusedSimpArgs false
theorem mat_info : (Tryd.prog.info? 30).map (fun i => (i.zero, i.size, i.bytes)) = some (some (.agg #[.int .i64 0, .string (str []), .string (str []), .slice none 0 0]), 4, 64) := by kernel_rfl
/-- A matcher with where its set lies. -/
abbrev MatS := Mat × Option Addr × Nat
def matC : List MatS → List Value
  | [] => []
  | x :: r => .int .i64 x.1.1 :: .string (str x.1.2.1) :: .string (str x.1.2.2.1) :: .slice x.2.1 x.1.2.2.2.length x.2.2 :: matC r
theorem matC_append (l m : List MatS) : matC (l ++ m) = matC l ++ matC m := by
  induction l with
  | nil => rfl
  | cons x r ih => simp [matC, ih]
theorem matC_length (l : List MatS) : (matC l).length = 4 * l.length := by
  induction l with
  | nil => rfl
  | cons x r ih => simp [matC, ih]; omega
theorem matC_get (l : List MatS) : ∀ i (h : i < l.length), (matC l)[4 * i]? = some (.int .i64 l[i].1.1) ∧ (matC l)[4 * i + 1]? = some (.string (str l[i].1.2.1)) ∧ (matC l)[4 * i + 2]? = some (.string (str l[i].1.2.2.1)) ∧ (matC l)[4 * i + 3]? = some (.slice l[i].2.1 l[i].1.2.2.2.length l[i].2.2) := by
  induction l with
  | nil => intro i h; simp at h
  | cons x r ih =>
    intro i h
    cases i with
    | zero => exact ⟨rfl, rfl, rfl, rfl⟩
    | succ i => exact ih i (by simpa using h)
/-- Where a matcher's set lies. -/
def SetAt (w : World) (x : MatS) : Prop := w.ownsRow 0 9 1 (.slice x.2.1 x.1.2.2.2.length x.2.2) x.1.2.2.2.length (strsC x.1.2.2.2)
theorem SetAt.below {w w' : World} {x : MatS} (h : SetAt w x) (hb : Below w.heap.size w w') : SetAt w' x := (Keeps.below (F := []) hb).row h (by simp)
theorem SetAt.alloc {w : World} {x : MatS} (h : SetAt w x) (o : Obj) : SetAt (w.alloc o) x := World.ownsRow.alloc h o
theorem SetAt.grown {w w' : World} {B n size : Nat} {v : Value} {xs : List Value} {x : MatS} (h : SetAt w x) (hown : w.ownsRow B 30 size v n xs) (hg : w.grownBy w' v.ownBlock) : SetAt w' x := by
  rcases hown.2 with ⟨rfl, _⟩ | ⟨g, cap, cur, rfl, hB, hh, _⟩
  · exact ((Keeps.refl [] w).grown hg (fun k e => by simp [Value.ownBlock] at e)).row h (by simp)
  · refine ((Keeps.refl [g] w).grown hg (fun k e => ?_)).row h (fun k e => ?_)
    · simp [Value.ownBlock] at e; left; simp [e]
    · have := row_apart h hh (by decide) k e
      simp [this]
theorem own_mats {B : Nat} {n : Nat} {l : List MatS} {w : World} {A : Option Addr} {cap : Nat} (h : w.ownsRow B 30 4 (.slice A n cap) n (matC l)) (hn : n = l.length) (hset : ∀ x ∈ l, SetAt w x) (hk : ∀ x ∈ l, 0 ≤ x.1.1 ∧ x.1.1 ≤ 3) (hs : ∀ x ∈ l, smallM x.1) :
    MsAt w A n (l.map (·.1)) := by
  refine ⟨by rw [List.length_map]; exact hn, fun i hi => ?_⟩
  have hil : i < l.length := by simpa using hi
  have e : (l.map (·.1))[i] = l[i].1 := by simp
  rw [e]
  have hm := List.getElem_mem hil
  obtain ⟨s1, s2, s3, s4⟩ := hs _ hm
  have hk1 := hk _ hm
  refine ⟨⟨by omega, by omega, by omega, by omega, by omega⟩, ?_⟩
  rcases h.2 with ⟨e, h0⟩ | ⟨g, c, cur, e, hg, hb, _⟩
  · omega
  · injection e with e1 e2 e3
    subst e1
    obtain ⟨c0, c1, c2, c3⟩ := matC_get l i hil
    have h0 := h.cellAt (4 * i) (by omega)
    have h1 := h.cellAt (4 * i + 1) (by omega)
    have h2 := h.cellAt (4 * i + 2) (by omega)
    have h3 := h.cellAt (4 * i + 3) (by omega)
    rw [c0] at h0
    rw [c1] at h1
    rw [c2] at h2
    rw [c3] at h3
    have ea : (⟨g, 0, none⟩ : Addr).add (i * 4) = ⟨g, 4 * i, none⟩ := by
      unfold Addr.add
      split <;> simp_all <;> omega
    refine ⟨_, rfl, ?_, ?_, ?_, ?_, l[i].2.1, l[i].2.2, ?_, ?_⟩
    · rw [ea]; exact lt_of_block hb
    · rw [ea]; exact h0
    · rw [ea]; exact h1
    · rw [ea]; exact h2
    · rw [ea]; exact h3
    · exact own_strs (hset _ hm) rfl (fun x hx => by have := s4 x hx; omega)
theorem cells_four_new (w : World) (x y z u : Value) (t : TypeId) : ∀ j v, [x, y, z, u][j]? = some v → (w.alloc (.cells #[x, y, z, u] t)).cell? ((⟨w.heap.size, 0, none⟩ : Addr).add j) = some v := by
  have d := blk_new w (.cells #[x, y, z, u] t)
  intro j v hv
  match j with
  | 0 => have := blk_cell d 0; simp at hv; subst hv; exact this
  | 1 => have := blk_cell d 1; simp at hv; subst hv; exact this
  | 2 => have := blk_cell d 2; simp at hv; subst hv; exact this
  | 3 => have := blk_cell d 3; simp at hv; subst hv; exact this
  | j + 4 => simp at hv
def GuessM (s : List UInt8) (e : Ending) (w' : World) : Prop :=
  (e = .returned (.tuple #[.slice none 0 0, .bool false]) ∧ ∀ L, okMs L = true → printM L ≠ s) ∨
  ∃ A cap l, e = .returned (.tuple #[.slice A l.length cap, .bool true]) ∧ MsAt w' A l.length l ∧ l.length ≤ 8 ∧ (∀ m ∈ l, smallM m) ∧ ∀ L, okMs L = true → printM L = s → L = l
set_option maxRecDepth 100000 in
set_option maxHeartbeats 4000000 in
theorem mguess_c (s : List UInt8) (w : World) (hs : s.length ≤ 16000) (m : Int) (hm : w.cell? ⟨0, 0, none⟩ = some (.int .i64 m)) (hm2 : 0 < w.heap.size) (hT : Lib.Utf8Tabs 1 2 w) :
    Calls Tryd.prog 30 #[.string (str s)] w fun e w' => GuessM s e w' ∧ Below w.heap.size w w' := by
  obtain ⟨i0, hi0, hz0, hz1, hz2⟩ := info_parts mat_info
  have hg0 := GoesM.start s
  have tp0 := fun W => tpre_c s [91] W
  have tl0 := trimP_len s [91]
  obtain ⟨P1, hP1⟩ : ∃ P, Lib.trimPrefix s [91] = P := ⟨_, rfl⟩
  rw [hP1] at tp0 tl0 hg0
  have ts0 := fun W => tsuf_c P1 [93] W (by omega)
  have tl1 := trimS_len P1 [93]
  obtain ⟨P2, hP2⟩ : ∃ P, Lib.trimSuffix P1 [93] = P := ⟨_, rfl⟩
  rw [hP2] at ts0 tl1 hg0
  have HG0 := Lib.hid hg0
  clear hg0 hP1 hP2
  go_enter Tryd.func30, Tryd.ntmps30
  go_wp2_with (first | (go_at_call 49; refine (tp0 _).mono ?_; rintro e w1 ⟨rfl, rfl⟩) | (go_at_call 48; refine (ts0 _).mono ?_; rintro e w1 ⟨rfl, rfl⟩))
  clear tp0 ts0
  go_loopw [4, 5] (fun a v wr => ∃ (rest : List UInt8) (acc : List MatS), a = .string (str rest) ∧ rest.length ≤ s.length ∧ acc.length ≤ 8 ∧ wr.ownsRow w.heap.size 30 4 v acc.length (matC acc) ∧ Hid ((∀ x ∈ acc, SetAt wr x ∧ (0 ≤ x.1.1 ∧ x.1.1 ≤ 3) ∧ smallM x.1) ∧ GoesM s (acc.map (·.1)) rest) ∧ Below w.heap.size w wr) (fun a _ _ => match a with | .string b => b.size | _ => 0)
  case atStart => exact ⟨P2, [], rfl, by omega, by simp, ⟨rfl, .inl ⟨rfl, rfl⟩⟩, ⟨by simp, HG0.out⟩, Below.refl _ _⟩
  case round =>
    obtain ⟨rest, acc, rfl, hrl, hal, hown, HG, hb⟩ := hrel
    obtain ⟨A, cap, rfl⟩ := row_slice hown
    have hsz := hb.size
    have hlow := Lib.hid (ownLow hown)
    have hmr : wr.cell? ⟨0, 0, none⟩ = some (.int .i64 m) := (hb.cell (p := ⟨0, 0, none⟩) hm2).trans hm
    have hmr2 := Nat.lt_of_lt_of_le hm2 hsz
    have hTr := Utf8Tabs_below hT hb
    by_cases hr0 : rest = []
    · subst hr0
      have hd := GoesM.done HG.out.2
      have hl := own_mats hown rfl (fun x hx => (HG.out.1 x hx).1) (fun x hx => (HG.out.1 x hx).2.1) (fun x hx => (HG.out.1 x hx).2.2)
      have hml : (acc.map (·.1)).length = acc.length := List.length_map _
      have HZ : Hid (GuessM s (.returned (.tuple #[.slice A acc.length cap, .bool true])) wr) := by
        refine .inr ⟨A, cap, acc.map (·.1), by rw [hml], by rw [hml]; exact hl, by rw [hml]; exact hal, fun m hm => ?_, hd⟩
        obtain ⟨x, hx, rfl⟩ := List.mem_map.1 hm
        exact (HG.out.1 x hx).2.2
      clear hd hl hown hml
      go_wp2_with fail
      go_ret2
      exact ⟨HZ.out, hb⟩
    · have hre : rest.isEmpty = false := by cases rest with | nil => exact absurd rfl hr0 | cons c r => rfl
      have hrb : (rest == []) = false := by rw [beq_eq_false_iff_ne]; exact hr0
      have hfull := fun h => HG.out.2.full hr0 h
      have hbad := fun h => HG.out.2.bad hr0 h
      have hstep := fun x b h => HG.out.2.step (x := x) (b := b) hr0 h
      have cf := first_c rest wr (by omega) m hmr hmr2 hTr
      have CF := Lib.hid cf
      have HO := Lib.hid hown
      clear cf hown
      go_wp2_with fail
      refine CF.out.mono ?_
      rintro e w1 ⟨hF, hb1⟩
      have hb1' := below2 hb hb1 hsz
      rcases hF with ⟨rfl, hno⟩ | ⟨x, S, cS, b, rfl, hset, hbl, ⟨x1, x2, x3, x4, x5, x6⟩, hun⟩
      · have HZ : Hid (∀ w', GuessM s (.returned (.tuple #[.slice none 0 0, .bool false])) w') := fun w' => .inl ⟨rfl, hbad hno⟩
        clear hno hfull hbad hstep hr0
        go_wp2_with fail
        go_ret2
        exact ⟨HZ.out _, hb1'.alloc hb1'.size _⟩
      · by_cases h8 : acc.length = 8
        · have HZ : Hid (∀ w', GuessM s (.returned (.tuple #[.slice none 0 0, .bool false])) w') := fun w' => .inl ⟨rfl, hfull (by rw [List.length_map]; exact h8)⟩
          have t8 : (((acc.length : Nat) : Int) == 8) = true := by simp [h8]
          clear hun hfull hbad hstep hr0 h8
          go_wp2_with fail
          go_ret2
          exact ⟨HZ.out _, hb1'.alloc hb1'.size _⟩
        · have t8 : (((acc.length : Nat) : Int) == 8) = false := by rw [beq_eq_false_iff_ne]; omega
          have hal7 : acc.length < 8 := by omega
          have HST := Lib.hid (hstep x b hun)
          have hsmall : smallM x := by
            have := nameL_len x3
            have := valueL_len x4
            exact ⟨by omega, by omega, by omega, fun y hy => by have := valueL_len (x6 y hy); omega⟩
          have tp := fun W => tpre_c b [44] W
          have tl := trimP_len b [44]
          obtain ⟨rest', hrest⟩ : ∃ P, Lib.trimPrefix b [44] = P := ⟨_, rfl⟩
          rw [hrest] at tp tl HST
          have hO1 := (Keeps.below (F := []) hb1).row HO.out (by simp)
          obtain ⟨k, n, v, st⟩ := x
          simp only at hset x1 x2 x3 x4 x5 x6
          have hO2 := (hO1.alloc (.cells #[.int .i64 k, .string (str n), .string (str v), .slice S st.length cS] 30)).alloc (.cells #[.int .i64 k, .string (str n), .string (str v), .slice S st.length cS] 30)
          have hX : SetAt w1 ((k, n, v, st), S, cS) := hset
          have HALL : Hid (∀ y ∈ acc ++ [((k, n, v, st), S, cS)], SetAt w1 y ∧ (0 ≤ y.1.1 ∧ y.1.1 ≤ 3) ∧ smallM y.1) := by
            intro y hy
            rcases List.mem_append.1 hy with hy | hy
            · obtain ⟨y1, y2, y3⟩ := HG.out.1 y hy
              exact ⟨y1.below hb1, y2, y3⟩
            · simp at hy; subst hy; exact ⟨hX, ⟨x1, x2⟩, hsmall⟩
          have HO2 := Lib.hid hO2
          have hb2 := hb1'.alloc hb1'.size (.cells #[.int .i64 k, .string (str n), .string (str v), .slice S st.length cS] 30)
          clear hun hfull hbad hstep hr0 h8 hrest hO1 hO2 hset hX hsmall x3 x4 x6
          have hsz2 : ((w1.alloc (.cells #[.int .i64 k, .string (str n), .string (str v), .slice S st.length cS] 30)).alloc (.cells #[.int .i64 k, .string (str n), .string (str v), .slice S st.length cS] 30)).heap.size = w1.heap.size + 1 + 1 := by simp
          have hc4 := cells_four_new (w1.alloc (.cells #[.int .i64 k, .string (str n), .string (str v), .slice S st.length cS] 30)) (.int .i64 k) (.string (str n)) (.string (str v)) (.slice S st.length cS) 30
          rw [show (w1.alloc (.cells #[.int .i64 k, .string (str n), .string (str v), .slice S st.length cS] 30)).heap.size = w1.heap.size + 1 by simp] at hc4
          have HC4 := Lib.hid hc4
          have hs1 := hb1'.size
          clear hc4
          go_wp2_with (at_builtin; refine wpList_append_lies _ rfl (.tmp 27) (.tmp 29) 22 rfl w.heap.size 30 i0 (.agg #[.int .i64 0, .string (str []), .string (str []), .slice none 0 0]) 4 64 Tryd.underlying22 hi0 hz0 hz1 hz2 rfl (by decide) _ acc.length _ rfl HO2.out ⟨w1.heap.size + 1, 0, none⟩ 1 1 [.int .i64 k, .string (str n), .string (str v), .slice S st.length cS] rfl rfl HC4.out ?c2 (by decide) ?c3 ?c4 ?c5 _ rfl ?c6)
          case c2 => intro u hu; simp at hu; rcases hu with rfl | rfl | rfl | rfl <;> rfl
          case c3 => unfold maxLen; omega
          case c4 => omega
          case c5 => rw [hsz2]; omega
          case c6 =>
            intro g1 cap1 w4 hown1 hg1 _ hl1
            have hb4 : Below w.heap.size w w4 := (hb2.alloc hb2.size _).grown hg1 (by rw [hsz2]; omega) hlow.out
            have HA4 : Hid (∀ y ∈ acc ++ [((k, n, v, st), S, cS)], SetAt w4 y ∧ (0 ≤ y.1.1 ∧ y.1.1 ≤ 3) ∧ smallM y.1) := fun y hy => by
              obtain ⟨y1, y2⟩ := HALL.out y hy
              exact ⟨((y1.alloc _).alloc _).grown HO2.out hg1, y2⟩
            have HO4 := Lib.hid hown1
            clear hown1 hg1
            go_wp2_with (go_at_call 49; refine (tp _).mono ?_; rintro e w5 ⟨rfl, rfl⟩)
            go_roundw
            case rel => exact ⟨rest', acc ++ [((k, n, v, st), S, cS)], rfl, by omega, by simp; omega, by rw [List.length_append, matC_append]; exact HO4.out, ⟨HA4.out, by rw [List.map_append]; exact HST.out⟩, hb4⟩
            case measure => simp only [str_size]; omega
/-- What Parse answers. -/
def ParsedM (s : List UInt8) (e : Ending) (w' : World) : Prop :=
  (e = .returned (.tuple #[.slice none 0 0, .int .i64 11]) ∧ ∀ L, okMs L = true → printM L ≠ s) ∨
  ∃ A cap l, e = .returned (.tuple #[.slice A l.length cap, .int .i64 0]) ∧ MsAt w' A l.length l ∧ okMs l = true ∧ printM l = s ∧ ∀ L, okMs L = true → printM L = s → L = l
set_option maxRecDepth 100000 in
set_option maxHeartbeats 2000000 in
theorem mparse_c (s : List UInt8) (w : World) (hs : s.length ≤ 16000) (m : Int) (hm : w.cell? ⟨0, 0, none⟩ = some (.int .i64 m)) (hm2 : 0 < w.heap.size) (hT : Lib.Utf8Tabs 1 2 w) :
    Calls Tryd.prog 16 #[.string (str s)] w fun e w' => ParsedM s e w' ∧ Below w.heap.size w w' := by
  go_enter Tryd.func16, Tryd.ntmps16
  go_wp2_with fail
  refine (mguess_c s _ hs m hm hm2 hT).mono ?_
  rintro e w1 ⟨hG, hb1⟩
  rcases hG with ⟨rfl, hno⟩ | ⟨A, cap, l, rfl, hl, hl8, hsm, hun⟩
  · have HZ : Hid (∀ w', ParsedM s (.returned (.tuple #[.slice none 0 0, .int .i64 11])) w') := fun w' => .inl ⟨rfl, hno⟩
    clear hno
    go_wp2_with fail
    go_ret2
    exact ⟨HZ.out _, hb1⟩
  · have cp := mprint_c A l.length cap l w1 (by omega) hl hsm (Utf8Tabs_below hT hb1)
    cases hO : okMs l with
    | false =>
      have HZ : Hid (∀ w', ParsedM s (.returned (.tuple #[.slice none 0 0, .int .i64 11])) w') := fun w' => .inl ⟨rfl, fun L h1 h2 => by
        have := hun L h1 h2
        subst this
        rw [hO] at h1; cases h1⟩
      rw [hO, show eM false = 50 from rfl] at cp
      have CP := Lib.hid cp
      clear hun hsm cp hl
      go_wp2_with (go_at_call 14; refine CP.out.mono ?_; rintro e w2 ⟨rfl, hb2⟩)
      go_ret2
      exact ⟨HZ.out _, below2 hb1 hb2 hb1.size⟩
    | true =>
      rw [hO, show eM true = 0 from rfl, if_pos rfl] at cp
      by_cases hp : printM l = s
      · have HZ : Hid (∀ w', Below w1.heap.size w1 w' → ParsedM s (.returned (.tuple #[.slice A l.length cap, .int .i64 0])) w') := fun w' hw => .inr ⟨A, cap, l, rfl, hl.below hw, hO, hp, hun⟩
        rw [hp] at cp
        have tn : (s != s) = false := by simp
        have CP := Lib.hid cp
        clear hun hsm cp hl hO hp
        go_wp2_with (go_at_call 14; refine CP.out.mono ?_; rintro e w2 ⟨rfl, hb2⟩)
        go_ret2
        exact ⟨HZ.out _ hb2, below2 hb1 hb2 hb1.size⟩
      · have HZ : Hid (∀ w', ParsedM s (.returned (.tuple #[.slice none 0 0, .int .i64 11])) w') := fun w' => .inl ⟨rfl, fun L h1 h2 => by
          have := hun L h1 h2
          subst this
          exact hp h2⟩
        have tn : (printM l == s) = false := by rw [beq_eq_false_iff_ne]; exact hp
        obtain ⟨Q, hQ⟩ : ∃ Q, printM l = Q := ⟨_, rfl⟩
        rw [hQ] at cp tn
        have CP := Lib.hid cp
        clear hun hsm hp hQ cp hl hO
        go_wp2_with (go_at_call 14; refine CP.out.mono ?_; rintro e w2 ⟨rfl, hb2⟩)
        go_ret2
        exact ⟨HZ.out _, below2 hb1 hb2 hb1.size⟩
end Go.Proofs.YtopnnhjfcfhihaaDoor
