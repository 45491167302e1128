/-
  Texts of the same seat, one behind the other (merged; each says at its head what it is).
-/
import Derived.Test.YtdbifbgjbfnfmaaDoorM16
import Derived.Test.YtdbifbgjbfnfmaaDoorM12
import Derived.Test.YtdbifbgjbfnfmaaDoorM13
import Derived.Shelf.Abstract
import Derived.WalkKit
import Derived.OwnWalkIn
import Derived.TacticsInMore
import Derived.LoopNIn
import Derived.LoopIn
import Derived.Sort.MapsRangeIn
import Derived.Maps.OwnIn
import Derived.Test.YtdbifbgjbfnfmaaDoorM06
import Derived.Test.YtdbifbgjbfnfmaaDoorM05
import Derived.Test.YtdbifbgjbfnfmaaDoorM08
/-
  Layer 7 (index): the values of a map of texts, collected (maps.Values, slices.Collect), at elements that are slices of integers.
-/
namespace Go.Proofs.YtdbifbgjbfnfmaaDoor
open Go.RowKit Go.Deep
attribute [local go_sem] Oper.semAt_some
set_option linter.unusedVariables false
set_option linter.unusedSimpArgs false
/-- What has come of a map's keys, what is left of them. -/
def Coll (D : DataW Value) (left : Lit → Bool) (ss : List Txt) : Prop := ss.Nodup ∧ ∀ x, x ∈ ss ↔ ((getS D x).isSome = true ∧ left (.string x) = false)
theorem Coll.start (D : DataW Value) : Coll D (Maps.has D) [] := ⟨List.nodup_nil, fun x => by rw [has_getS]; cases (getS D x).isSome <;> simp⟩
theorem Coll.step {D : DataW Value} {left : Lit → Bool} {ss : List Txt} (h : Coll D left ss) {s : Txt} {c : Value} (hl : left (.string s) = true) (hc : getS D s = some c) : Coll D (fun z => left z && !z.sameKey (.string s)) (ss ++ [s]) := by
  have hns : s ∉ ss := fun hm => by have := ((h.2 s).1 hm).2; rw [hl] at this; cases this
  refine ⟨?_, fun x => ?_⟩
  · rw [List.nodup_append]
    exact ⟨h.1, by simp, fun a ha b hb e => by simp at hb; subst hb; subst e; exact hns ha⟩
  · show _ ↔ _ ∧ (left (.string x) && !(Lit.string x).sameKey (.string s)) = false
    rw [List.mem_append, h.2 x, sameS]
    by_cases e : x = s
    · subst e; simp [hc]
    · simp [e]
theorem Coll.all {D : DataW Value} {left : Lit → Bool} {ss : List Txt} (h : Coll D left ss) (hl : ∀ kl, left kl = false) : ss.Nodup ∧ ∀ x, x ∈ ss ↔ (getS D x).isSome = true := ⟨h.1, fun x => by rw [h.2 x, hl]; simp⟩
/-- .. in a fence. -/
theorem listIn_next_s {F : Fence} {n : Nat} {P : Program} (w : World) {ops : Array Oper} {rest : List Oper} {o : Oper} {a : Act} {Q : Exit → Act → World → Prop} (hg : o.guard = none) (it : Operand) (hop : o.op = Op.next it false) (k : TypeId) (hk : P.underlying k = some .string) (b r nn : Nat) (D : DataW Value) (left : Lit → Bool) (cnt : Nat)
    (hit : a.eval it = .pointer (some ⟨r, 0, none⟩)) (h : w.ranges P k anyE b r nn D left cnt)
    (hDone : cnt = 0 → (∀ kl, left kl = false) → wpListIn F n P ops Q rest (a.put o.dst (.tuple #[.bool false])) w)
    (hMore : ∀ (s : List UInt8) (c : Value) (w' : World) (cnt' : Nat), s.length ≤ maxLen → left (.string s) = true → getS D s = some c → w'.ranges P k anyE b r nn D (fun z => left z && !z.sameKey (.string s)) cnt' → cnt' < cnt →
      w.grownBy w' (some r) → w'.heap.size = w.heap.size → (Instr.entry (.pointer (some ⟨r, 0, none⟩))).run P w' = .ok (.tuple #[.string (str s), c]) w' → wpListIn F n P ops Q rest (a.put o.dst (.tuple #[.bool true, .string (str s), c])) w') :
    wpListIn F n P ops Q (o :: rest) a w :=
  wpListIn_next_ranges w hg it hop k (Maps.string_keyed hk) anyE (fun s : List UInt8 => .string (str s)) (fun c : Value => c) (fun key kl hkey => by obtain ⟨s, h1, _⟩ := keyS_inv hk hkey; exact ⟨s, h1⟩) (fun v y hv => ⟨v, rfl⟩)
    b r nn D left cnt hit h hDone (fun s c kl y w' cnt' hkey hlk hv hat hrg hlt hgr hsz hen => by
      obtain ⟨s', e, rfl, hsl⟩ := keyS_inv hk hkey
      have e' : str s = str s' := by injection e
      obtain rfl := str_inj e'
      have hy : y = (.held c, []) := (Option.some.inj hv).symm
      subst hy
      exact hMore s c w' cnt' hsl hlk (by unfold getS; rw [if_pos (Maps.has_true_of_atKey hat), hat]; rfl) hrg hlt hgr hsz hen)
/-- What may come next; when all have come. -/
def MayCome (D : DataW Value) (pre : List Txt) (x : Txt) : Prop := (getS D x).isSome = true ∧ pre.length < Maps.size D
def AllCame (D : DataW Value) (ss : List Txt) : Prop := ss.Nodup ∧ (∀ x, x ∈ ss ↔ (getS D x).isSome = true) ∧ ss.length ≤ Maps.size D
def valS (D : DataW Value) (s : Txt) : Value := (getS D s).getD undef
theorem mvalues_c (m : Option Nat) (w : World) : Calls Tryd.prog 94 #[.map m] w fun e w' =>
    e = .returned (.func (.func 112) #[] #[.pointer (some ⟨w.heap.size, 0, none⟩)]) ∧ w' = w.alloc (.cells #[.map m] 98) := by
  go_enter Tryd.func94, Tryd.ntmps94
  go_wp2_with fail
  go_ret
  exact ⟨rfl, rfl⟩
set_option maxRecDepth 100000 in
set_option maxHeartbeats 2000000 in
theorem values1_tells (n b bm nn : Nat) (hn1 : 1 ≤ n) (D : DataW Value) (w : World) (hbox : w.heap[b]? = some (.cells #[.map (some bm)] 98 (0, 0))) (hM : MapS Tryd.prog 9 w bm nn D) :
    TellsP Fence.wide n Tryd.prog 112 #[.pointer (some ⟨b, 0, none⟩)] (fun s => #[valS D s]) Obj.isWalk KeepsWalks (MayCome D) (AllCame D) w := by
  intro l J W hW hJ hY h0
  have hWb : W.heap[b]? = some (.cells #[.map (some bm)] 98 (0, 0)) := (hW.block b (lt_of_block hbox)).trans hbox
  have hMW := hM.below hW
  have hm := blk_cell hWb 0
  simp only [List.getElem?_toArray, List.getElem?_cons_zero] at hm
  refine callsIn_of_wp Tryd.func112 rfl trivial ?_ rfl
  simp only [Tryd.ntmps112, List.size_toArray, List.length_cons, List.length_nil, Nat.reduceAdd, Nat.reduceSub, Array.replicate_succ, Array.replicate_zero, List.push_toArray, List.append_toArray, List.nil_append, List.cons_append]
  gi_wp2_with (first
    | (gi_at_range; refine wpListIn_range_own _ rfl _ 98 rfl 9 40 (Maps.string_keyed Tryd.underlying9) Tryd.underlying98 anyE bm nn D rfl hMW ?_; intro w0 hrg0 hg0 hs0)
    | gi_in)
  try go_frame
  have hJ0 : J [] w0 := hJ [] W w0 [] h0 ((Keeps.refl [] W).grown hg0 (by simp)) (by simp)
  clear hg0 hs0
  gi_loopw [4] (fun _ wr => ∃ (left : Lit → Bool) (cnt : Nat) (ss : List Txt), wr.ranges Tryd.prog 9 anyE bm W.heap.size nn D left cnt ∧ ss.length + cnt ≤ Maps.size D ∧ Coll D left ss ∧ J ss wr)
    (fun _ wr => wr.rangeLeft bm W.heap.size)
  case atStart => exact ⟨_, _, [], hrg0, by simp, Coll.start D, hJ0⟩
  case round =>
    obtain ⟨left, cnt, ss, hrg, hcs, hC, hJs⟩ := hrel
    gi_wp2_with (first
      | (gi_at_next; refine listIn_next_s _ rfl _ rfl 9 Tryd.underlying9 bm W.heap.size nn D left cnt rfl hrg ?_ ?_)
      | gi_in)
    · intro hc0 hl0
      gi_wp2
      go_end0
      exact ⟨⟨_, rfl⟩, ss, ⟨(hC.all hl0).1, (hC.all hl0).2, by omega⟩, hJs⟩
    · intro s c w2 cnt2 hsl hlf hgs hrg2 hlt hg2 hs2 hen
      have hJ2 : J ss w2 := hJ ss wr w2 [W.heap.size] hJs ((Keeps.refl _ wr).grown hg2 (fun k hk => by left; simp at hk; simp [hk])) (fun k hk => by simp at hk; subst hk; exact ⟨Nat.le_refl _, hrg.iter_walk⟩)
      have hv : valS D s = c := by unfold valS; rw [hgs]; rfl
      obtain ⟨fn, tmps, assign, body, hy, hR⟩ := hY ss s w2 hJ2 ⟨by rw [hgs]; rfl, by omega⟩
      try dsimp only at hy
      rw [hv] at hy
      have hC2 := hC.step hlf hgs
      clear hs2 hv
      gi_wp2
      refine hR.mono ?_
      rintro e W3 ⟨rfl, hJ3, hk3⟩
      gi_wp2
      have hrg3 := hrg2.of_walks hk3
      go_roundw
      case rel => exact ⟨_, cnt2, ss ++ [s], hrg3, by simp; omega, hC2, hJ3⟩
      case measure => rw [hrg3.left_eq, hrg.left_eq]; exact hlt
set_option maxRecDepth 100000 in
set_option maxHeartbeats 2000000 in
/-- The same at a nil map. -/
theorem values1_nil (n b : Nat) (hn1 : 1 ≤ n) (w : World) (hbox : w.heap[b]? = some (.cells #[.map none] 98 (0, 0))) :
    TellsP Fence.wide n Tryd.prog 112 #[.pointer (some ⟨b, 0, none⟩)] (fun s => #[valS (.map []) s]) Obj.isWalk KeepsWalks (MayCome (.map [])) (AllCame (.map [])) w := by
  intro l J W hW hJ hY h0
  have hWb : W.heap[b]? = some (.cells #[.map none] 98 (0, 0)) := (hW.block b (lt_of_block hbox)).trans hbox
  have hm := blk_cell hWb 0
  simp only [List.getElem?_toArray, List.getElem?_cons_zero] at hm
  have hA : AllCame (.map []) [] := ⟨List.nodup_nil, fun x => by rw [getS_empty]; simp, by simp⟩
  refine callsIn_of_wp Tryd.func112 rfl trivial ?_ rfl
  simp only [Tryd.ntmps112, List.size_toArray, List.length_cons, List.length_nil, Nat.reduceAdd, Nat.reduceSub, Array.replicate_succ, Array.replicate_zero, List.push_toArray, List.append_toArray, List.nil_append, List.cons_append]
  have hrg := run_range_nilMap (P := Tryd.prog) W 98 9 40 Tryd.underlying98
  have hnx : ∀ ty, (Instr.next (.pointer (some ⟨W.heap.size, 0, none⟩)) false ty).run Tryd.prog (W.alloc (.mapIter none 0 #[] 0)) = _ := fun ty => run_next_nilMap _ ty 0 0 #[]
  gi_wp2
  refine wpIn_loop_rounds 1 ?_
  rw [roundsIn_succ]
  gi_wp2
  go_end0
  exact ⟨⟨_, rfl⟩, [], hA, hJ.alloc _ h0⟩
theorem lists_info : (Tryd.prog.info? 40).map (fun i => (i.zero, i.size, i.bytes)) = some (some (.slice none 0 0), 1, 24) := by kernel_rfl
set_option maxRecDepth 100000 in
set_option maxHeartbeats 2000000 in
theorem appendSeq_c (b : Nat) (D : DataW Value) (w : World) (hD : ∀ s v, getS D s = some v → ∃ A n c, v = .slice A n c) (hsz : Maps.size D ≤ 5000)
    (hseq : ∀ W, Below w.heap.size w W → TellsP Fence.wide 3 Tryd.prog 112 #[.pointer (some ⟨b, 0, none⟩)] (fun s => #[valS D s]) Obj.isWalk KeepsWalks (MayCome D) (AllCame D) W) :
    Calls Tryd.prog 111 #[.slice none 0 0, .func (.func 112) #[] #[.pointer (some ⟨b, 0, none⟩)]] w fun e w' =>
      (∃ ss A c, e = .returned (.slice A ss.length c) ∧ AllCame D ss ∧ w'.ownsRow w.heap.size 40 1 (.slice A ss.length c) ss.length (ss.map (valS D))) ∧ Below w.heap.size w w' := by
  obtain ⟨i0, hi0, hz0, hz1, hz2⟩ := info_parts lists_info
  refine (callsIn_wide (n := 4)).1 (callsIn_of_wp_marks Tryd.func111 rfl trivial ?_ rfl)
  simp only [Tryd.ntmps111, List.size_toArray, List.length_cons, List.length_nil, Nat.reduceAdd, Nat.reduceSub, Array.replicate_succ, Array.replicate_zero, List.push_toArray, List.append_toArray, List.nil_append, List.cons_append]
  refine wpIn_wide.2 ?_
  go_wp2_with fail
  have f0 := blk_new w (.cells #[.slice none 0 0] 107)
  have hb0 : Below w.heap.size w (w.alloc (.cells #[.slice none 0 0] 107)) := (Below.refl _ w).alloc (Nat.le_refl _) _
  have hs0 : (w.alloc (.cells #[.slice none 0 0] 107)).heap.size = w.heap.size + 1 := by simp
  have hq := hseq _ hb0
  generalize w.alloc (.cells #[.slice none 0 0] 107) = W0 at *
  refine wpIn_wide.1 (loop_tellsP (n := 4) rfl (by omega) (gf := 112) (lb := #[.pointer (some ⟨b, 0, none⟩)]) rfl trivial (enters_of Tryd.func112 (by kernel_rfl) rfl)
    hq (Below.refl _ _) (fun _ => rfl) (fun o h => by cases o <;> first | rfl | cases h) (fun h k => h.trans k) (fun W k o o' hk h hb => KeepsWalks.putObj _ h (by cases o <;> first | rfl | cases hb))
    (fun pre W => (∃ A cap, Boxed W w.heap.size 107 (.slice A pre.length cap) ∧ W.ownsRow w.heap.size 40 1 (.slice A pre.length cap) pre.length (pre.map (valS D))) ∧ Below w.heap.size w W) ?bears ?start
    (fun x => { tmps := #[.slice none 0 0, .func (.func 112) #[] #[.pointer (some ⟨b, 0, none⟩)], .pointer (some ⟨w.heap.size, 0, none⟩), undef, .slice none 0 0, valS D x, .func (.func 112) #[] #[.pointer (some ⟨b, 0, none⟩)], valS D x, undef, undef, undef, undef, undef], defers := [] }) ?assign ?body ?done)
  case bears =>
    rintro y X Y G ⟨⟨A, cap, b1, r1⟩, hb⟩ hK hG
    have hnr : ∀ {k : Nat} {cs : Array Value} {ty : TypeId}, X.heap[k]? = some (.cells cs ty (0, 0)) → k ∉ G := fun h => not_book h hG (by simp [Obj.isWalk, bookObj])
    refine ⟨⟨A, cap, box_keeps b1 hK (hnr b1), hK.row r1 (fun k hk => ?_)⟩, hb.trans (hK.to (by have := hb.size; omega) (fun f hf => by have := (hG f hf).1; omega))⟩
    obtain ⟨cs, hc⟩ := row_block r1 hk
    exact hnr hc
  case start => exact ⟨⟨none, 0, f0, ⟨rfl, .inl ⟨rfl, rfl⟩⟩⟩, hb0⟩
  case assign =>
    intro l x W K hK
    gi_wp2
    exact hK
  case body =>
    rintro l pre x W ⟨hx1, hx2⟩ ⟨⟨A, cap, b1, r1⟩, hb⟩
    obtain ⟨v, hv⟩ := Option.isSome_iff_exists.1 hx1
    obtain ⟨Av, nv, cv, rfl⟩ := hD x v hv
    have hval : valS D x = .slice Av nv cv := by unfold valS; rw [hv]; rfl
    have hst : (pre ++ [x]).map (valS D) = pre.map (valS D) ++ [.slice Av nv cv] := by rw [List.map_append]; simp [hval]
    have hbs := hb.size
    have hlb := b1.lt
    have c0 := b1.cell
    have g0 := b1.frozen
    have HR := Lib.hid (And.intro b1 (And.intro r1 (And.intro hb hst)))
    rw [hval]
    clear b1 r1 hb hst hx1 hv hval
    gi_wp2_with (first
      | (gi_at_builtin; refine listIn_app rfl _ _ 107 rfl w.heap.size 40 i0 (.slice none 0 0) 1 24 Tryd.underlying107 hi0 hz0 hz1 hz2 rfl (by decide) _ pre.length (pre.map (valS D)) rfl (HR.out.2.1.alloc _) ⟨W.heap.size, 0, none⟩ 1 1 [.slice Av nv cv] rfl rfl (cell_one_new _ _ _) (by intro u hu; simp at hu; subst hu; rfl) (by unfold maxLen; omega) (by omega) (by simp; omega) ?_; intro A1 cap1 w1 hown1 hg1 hl1; obtain ⟨p1, p2, p3, p4⟩ := push HR.out.1 (by decide) HR.out.2.1 hbs (Nat.le_refl _) hown1 hg1; have hc1 := p1.cell; have hf1 := p1.frozen; have HP := Lib.hid (And.intro p2 (And.intro p3 p4)); clear p1 p2 p3 p4 hown1 hg1 hl1)
      | gi_in)
    obtain ⟨p2, p3, p4⟩ := HP.out
    obtain ⟨b1, r1, hb, hst⟩ := HR.out
    refine ⟨Books.of_keeps p4 (fun k hk hB => ?_), KeepsWalks.trans (KeepsWalks.refl _) ?_, ⟨A1, cap1, by simpa using p2, by rw [hst]; simpa using p3⟩, ?_⟩
    · rcases mem_push.1 hk with rfl | h
      · exact book_cells b1
      · obtain ⟨cs, hc⟩ := row_block r1 h
        exact book_cells hc
    · refine ⟨p4.size, fun k o hk ho => p4.block hk (fun hm => ?_)⟩
      rcases mem_push.1 hm with rfl | h
      · rw [show W.heap[w.heap.size]? = _ from b1] at hk; injection hk with hk; subst hk; cases ho
      · obtain ⟨cs, hc⟩ := row_block r1 h
        rw [hc] at hk; injection hk with hk; subst hk; cases ho
    · exact hb.trans (p4.to hbs (fun f hf => by
        rcases mem_push.1 hf with rfl | h
        · exact Nat.le_refl _
        · exact (r1.lt f h).1))
  case done =>
    rintro Dd W ys hS hDd ⟨⟨A, cap, b1, r1⟩, hb⟩ hdef
    have c0 := b1.cell
    have HR := Lib.hid (And.intro b1 (And.intro r1 hb))
    have HS := Lib.hid hS
    clear b1 r1 hb hS
    go_wp2_with fail
    refine ⟨by simp, .inl ⟨_, _, rfl, run_takeDeferred hdef, ?_⟩⟩
    exact ⟨_, results_tmp rfl _ _ _, ⟨ys, A, cap, rfl, HS.out, ownsRow_putObj HR.out.2.1 _ hdef rfl⟩, HR.out.2.2.trans (belowK_b (w := w) (Nat.le_refl _) W Dd _ _ (by omega) hdef rfl rfl)⟩
theorem collect_c (b : Nat) (D : DataW Value) (w : World) (hD : ∀ s v, getS D s = some v → ∃ A n c, v = .slice A n c) (hsz : Maps.size D ≤ 5000)
    (hseq : ∀ W, Below w.heap.size w W → TellsP Fence.wide 3 Tryd.prog 112 #[.pointer (some ⟨b, 0, none⟩)] (fun s => #[valS D s]) Obj.isWalk KeepsWalks (MayCome D) (AllCame D) W) :
    Calls Tryd.prog 93 #[.func (.func 112) #[] #[.pointer (some ⟨b, 0, none⟩)]] w fun e w' =>
      (∃ ss A c, e = .returned (.slice A ss.length c) ∧ AllCame D ss ∧ w'.ownsRow w.heap.size 40 1 (.slice A ss.length c) ss.length (ss.map (valS D))) ∧ Below w.heap.size w w' := by
  have CA := Lib.hid (appendSeq_c b D w hD hsz hseq)
  clear hseq
  go_enter Tryd.func93, Tryd.ntmps93
  go_wp2_with fail
  go_at_call 111
  refine CA.out.mono ?_
  rintro e w1 ⟨⟨ss, A, c, rfl, hS, hR⟩, hb⟩
  have HR := Lib.hid (And.intro hS hR)
  clear hS hR
  go_wp2_with fail
  go_ret
  exact ⟨⟨ss, A, c, rfl, HR.out.1, HR.out.2⟩, hb⟩
/-- Collect of Values, at the map as it stands behind the call of Values. -/
theorem collected_c (m : Option Nat) (nn : Nat) (D : DataW Value) (w : World) (hm : (m = none ∧ D = .map []) ∨ ∃ bm, m = some bm ∧ MapS Tryd.prog 9 w bm nn D) (hD : ∀ s v, getS D s = some v → ∃ A n c, v = .slice A n c) (hsz : Maps.size D ≤ 5000) :
    Calls Tryd.prog 93 #[.func (.func 112) #[] #[.pointer (some ⟨w.heap.size, 0, none⟩)]] (w.alloc (.cells #[.map m] 98)) fun e w' =>
      (∃ ss A c, e = .returned (.slice A ss.length c) ∧ AllCame D ss ∧ w'.ownsRow w.heap.size 40 1 (.slice A ss.length c) ss.length (ss.map (valS D))) ∧ Below w.heap.size w w' := by
  have hb0 : Below w.heap.size w (w.alloc (.cells #[.map m] 98)) := (Below.refl _ w).alloc (Nat.le_refl _) _
  have hbx := blk_new w (.cells #[.map m] 98)
  refine (collect_c w.heap.size D _ hD hsz (fun W hW => ?_)).mono ?_
  · have hbW := (hW.block w.heap.size (lt_of_block hbx)).trans hbx
    rcases hm with ⟨rfl, rfl⟩ | ⟨bm, rfl, hM⟩
    · exact values1_nil 3 w.heap.size (by omega) W hbW
    · exact values1_tells 3 w.heap.size bm nn (by omega) D W hbW ((hM.below hb0).below hW)
  · rintro e w' ⟨⟨ss, A, c, rfl, hS, hR⟩, hb⟩
    exact ⟨⟨ss, A, c, rfl, hS, hR.mono hb0.size⟩, hb0.trans (hb.mono hb0.size)⟩
end Go.Proofs.YtdbifbgjbfnfmaaDoor
/-
  Layer 5 (match): what the program's Check returns; all that was in memory stays.
-/
namespace Go.Proofs.YtdbifbgjbfnfmaaDoor
open Go.RowKit Go.Deep
attribute [local go_sem] str_size str_append str_toList str_get str_extract
set_option linter.unusedVariables false
set_option linter.unusedSimpArgs false
set_option maxRecDepth 100000 in
set_option maxHeartbeats 1000000 in
theorem maySet_c (A : Option Addr) (len cap : Nat) (s : List (List UInt8)) (w : World) (hl : s.length ≤ 16384) (hA : StrsAt w A len s) (hz : ∀ x ∈ s, x.length ≤ 16384) (hT : Lib.Utf8Tabs 1 2 w) :
    Calls Tryd.prog 90 #[.slice A len cap] w fun e w' => e = .returned (.bool (setL s)) ∧ Below w.heap.size w w' := by
  have hle := hA.1
  subst hle
  by_cases h0 : s.length = 0
  · have e : setL s = false := by unfold setL; simp [h0]
    rw [e]
    have t0 : ((s.length : Int) == 0) = true := by simp [h0]
    clear h0 e
    go_enter Tryd.func90, Tryd.ntmps90
    go_wp2_with fail
    go_ret
    exact ⟨rfl, Below.refl _ _⟩
  have t0 : ((s.length : Int) == 0) = false := by rw [beq_eq_false_iff_ne]; omega
  by_cases h8 : 8 < (s.length : Int)
  · have e : setL s = false := by unfold setL; rw [show decide (s.length ≤ 8) = false by simp; omega]; simp
    rw [e]
    clear e h0
    go_enter Tryd.func90, Tryd.ntmps90
    go_wp2_with fail
    go_ret
    exact ⟨rfl, Below.refl _ _⟩
  have t8 : decide (8 < (s.length : Int)) = false := by simpa using h8
  have e : setL s = setFrom none s := by unfold setL; rw [show decide (1 ≤ s.length) = true by simp; omega, show decide (s.length ≤ 8) = true by simp; omega]; simp
  rw [e]
  obtain ⟨R, hR⟩ : ∃ R, setFrom none s = R := ⟨_, rfl⟩
  rw [hR]
  have HR := Lib.hid hR
  clear hR e h0 h8
  go_enter Tryd.func90, Tryd.ntmps90
  go_wp2_with fail
  go_loopw [15] (fun c wr => ∃ i : Nat, i ≤ s.length ∧ c = .int .i64 i ∧ Hid (setFrom (prevO s i) (s.drop i) = R) ∧ Below w.heap.size w wr) (fun c _ => s.length - (intOf c).toNat)
  case atStart => exact ⟨0, Nat.zero_le _, rfl, HR.out, Below.refl _ _⟩
  case round =>
    obtain ⟨i, hi, rfl, HI, hb⟩ := hrel
    have hsz := hb.size
    by_cases hlt : i < s.length
    · obtain ⟨-, ad, rfl, h2, h3⟩ := (hA.below hb).2 i hlt
      have hT2 := Utf8Tabs_below hT hb
      have hst := setFrom_at (o := prevO s i) hlt
      rw [HI.out] at hst
      have z1 := hz _ (List.getElem_mem hlt)
      have hnx := prevO_succ hlt
      obtain ⟨v, hv⟩ : ∃ v, s[i]'hlt = v := ⟨_, rfl⟩
      rw [hv] at hst h3 z1 hnx
      have HNX := Lib.hid hnx
      have HST := Lib.hid hst
      have c1 := fun W h => value_c v W (by omega) h
      clear hst hv hnx
      cases hV : valueL v with
      | false =>
        have e := HST.out
        rw [hV, Bool.false_and] at e
        subst e
        rw [hV] at c1
        clear hV
        go_wp2_with (go_at_call 82; refine (c1 _ hT2).mono ?_; rintro e w1 ⟨rfl, hb1⟩; dsimp only)
        go_ret
        exact ⟨rfl, below2 hb hb1 hsz⟩
      | true =>
      rw [hV] at c1
      by_cases hi0 : i = 0
      · subst hi0
        have e := HST.out
        rw [prevO_zero, hV, Bool.true_and] at e
        have e2 : R = setFrom (some v) (s.drop (0 + 1)) := e
        have HE : Hid (setFrom (prevO s (0 + 1)) (s.drop (0 + 1)) = R) := by show _ = _; rw [HNX.out, e2]
        clear hV e e2
        have ea : ad.add 0 = ad := by rcases ad with ⟨b, o, p⟩; cases p <;> rfl
        rw [ea] at h2 h3
        go_wp2_with (go_at_call 82; refine (c1 _ hT2).mono ?_; rintro e w1 ⟨rfl, hb1⟩; dsimp only)
        go_roundw
        case rel => exact ⟨1, by omega, by go_num, HE.out, below2 hb hb1 hsz⟩
        case measure => simp [intOf]; omega
      · obtain ⟨j, rfl⟩ : ∃ j, i = j + 1 := ⟨i - 1, by omega⟩
        have ea : ad.add (j + 1) = ⟨ad.block, ad.off + (j + 1), none⟩ := by unfold Addr.add; rw [if_neg (by omega)]
        rw [ea] at h2 h3
        clear ea
        have hpj := prevO_succ (s := s) (i := j) (by omega)
        have hcell := fun W (hW : Below wr.heap.size wr W) => (((hA.below hb).below hW).2 j (by omega))
        obtain ⟨p, hp⟩ : ∃ p, s[j]'(by omega) = p := ⟨_, rfl⟩
        have hcell2 : ∀ W, Below wr.heap.size wr W → (ad.add j).block < W.heap.size ∧ W.cell? (ad.add j) = some (.string (str p)) := fun W hW => by
          obtain ⟨-, ad', e, q2, q3⟩ := hcell W hW
          injection e with e
          subst e
          rw [hp] at q3
          exact ⟨q2, q3⟩
        have HC := Lib.hid hcell2
        rw [hp] at hpj
        have HPJ := Lib.hid hpj
        have hord := less_trans_like v p
        have HORD := Lib.hid hord
        have ej : ((j + 1 : Nat) : Int) - 1 = (j : Int) := by omega
        have tj : (0 : Int) < ((j + 1 : Nat) : Int) := by omega
        have tj2 : (0 : Int) < (j : Int) + 1 := by omega
        clear hord hpj hp hcell hcell2
        cases hL : Op.bytesLess p v with
        | false =>
          have e := HST.out
          rw [HPJ.out, hV, Bool.true_and] at e
          have e2 : R = (Op.bytesLess p v && setFrom (some v) (s.drop (j + 1 + 1))) := e
          rw [hL, Bool.false_and] at e2
          subst e2
          have tl : (Op.bytesLess v p || v == p) = true := by have := HORD.out; rw [hL] at this; revert this; generalize (Op.bytesLess v p || v == p) = q; cases q <;> simp
          clear hV hL e
          go_wp2_with (go_at_call 82; refine (c1 _ hT2).mono ?_; rintro e w1 ⟨rfl, hb1⟩; obtain ⟨q2, q3⟩ := HC.out _ hb1; dsimp only)
          go_ret
          exact ⟨rfl, below2 hb hb1 hsz⟩
        | true =>
          have e := HST.out
          rw [HPJ.out, hV, Bool.true_and] at e
          have e2 : R = (Op.bytesLess p v && setFrom (some v) (s.drop (j + 1 + 1))) := e
          rw [hL, Bool.true_and] at e2
          have HE : Hid (setFrom (prevO s (j + 1 + 1)) (s.drop (j + 1 + 1)) = R) := by show _ = _; rw [HNX.out, e2]
          have tl : (Op.bytesLess v p || v == p) = false := by have := HORD.out; rw [hL] at this; revert this; generalize (Op.bytesLess v p || v == p) = q; cases q <;> simp
          clear hV hL e e2
          go_wp2_with (go_at_call 82; refine (c1 _ hT2).mono ?_; rintro e w1 ⟨rfl, hb1⟩; obtain ⟨q2, q3⟩ := HC.out _ hb1; dsimp only)
          go_roundw
          case rel => exact ⟨j + 1 + 1, by omega, by go_num, HE.out, below2 hb hb1 hsz⟩
          case measure => simp [intOf]; omega
    · obtain rfl : i = s.length := by omega
      have e := HI.out
      rw [setFrom_end] at e
      subst e
      go_wp2_with fail
      go_ret
      exact ⟨rfl, hb⟩
def mayL (many : Bool) (v : List UInt8) (s : List (List UInt8)) : Bool := if many = true then (v == []) && setL s else valueL v && decide (s.length = 0)
set_option maxHeartbeats 1000000 in
theorem mayLook_c (mark : List UInt8) (nt many : Bool) (F : Nat) (v : List UInt8) (A : Option Addr) (cap : Nat) (s : List (List UInt8)) (w : World) (hl : s.length ≤ 16384) (hA : StrsAt w A s.length s) (hz : ∀ x ∈ s, x.length ≤ 16384) (hv : v.length ≤ 16384) (hT : Lib.Utf8Tabs 1 2 w) :
    Calls Tryd.prog 60 #[.agg #[.string (str mark), .bool nt, .bool many, .func (.func F) #[] #[]], .string (str v), .slice A s.length cap] w fun e w' => e = .returned (.bool (mayL many v s)) ∧ Below w.heap.size w w' := by
  have hst := fun (a : Addr) (w : World) => run_store Tryd.prog w a (.func (.func F) #[] #[]) .plain rfl
  have hb1 : Below w.heap.size w (w.alloc (.cells #[.string (str mark), .bool nt, .bool many, .func (.func F) #[] #[]] 101)) := (Below.refl _ _).alloc (Nat.le_refl _) _
  have hT1 := Utf8Tabs_below hT hb1
  cases many with
  | true =>
    have cs := maySet_c A s.length cap s _ hl (hA.below hb1) hz hT1
    have e : mayL true v s = ((v == []) && setL s) := rfl
    rw [e]
    obtain ⟨R, hR⟩ : ∃ R, setL s = R := ⟨_, rfl⟩
    rw [hR] at cs ⊢
    by_cases hv0 : v = []
    · subst hv0
      clear e hR
      go_enter Tryd.func60, Tryd.ntmps60
      go_wp2_with (go_at_call 90; refine cs.mono ?_; rintro e w1 ⟨rfl, hb2⟩; dsimp only)
      go_ret
      exact ⟨rfl, below2 hb1 hb2 hb1.size⟩
    · have tv : (v == []) = false := by rw [beq_eq_false_iff_ne]; exact hv0
      rw [tv, Bool.false_and]
      clear e hR hv0
      go_enter Tryd.func60, Tryd.ntmps60
      go_wp2_with fail
      go_ret
      exact ⟨rfl, hb1⟩
  | false =>
    have cv := value_c v _ (by omega) hT1
    have e : mayL false v s = (valueL v && decide (s.length = 0)) := rfl
    rw [e]
    cases hV : valueL v with
    | false =>
      rw [hV] at cv
      rw [Bool.false_and]
      clear e
      go_enter Tryd.func60, Tryd.ntmps60
      go_wp2_with (go_at_call 82; refine cv.mono ?_; rintro e w1 ⟨rfl, hb2⟩; dsimp only)
      go_ret
      exact ⟨rfl, below2 hb1 hb2 hb1.size⟩
    | true =>
      rw [hV] at cv
      rw [Bool.true_and]
      obtain ⟨b, hb⟩ : ∃ b, decide (s.length = 0) = b := ⟨_, rfl⟩
      have tb : ((s.length : Int) == 0) = b := by rw [← hb, Bool.eq_iff_iff]; simp
      rw [hb]
      clear e hb
      go_enter Tryd.func60, Tryd.ntmps60
      go_wp2_with (go_at_call 82; refine cv.mono ?_; rintro e w1 ⟨rfl, hb2⟩; dsimp only)
      go_ret
      exact ⟨rfl, below2 hb1 hb2 hb1.size⟩
theorem kind_many (k : Int) (hk : 0 ≤ k ∧ k ≤ 3) : ∃ mark nt F, kindL k = kindV mark nt (decide (k = 3)) (.func (.func F) #[] #[]) := by
  unfold kindL
  by_cases h0 : k = 0
  · subst h0; exact ⟨_, _, _, rfl⟩
  by_cases h1 : k = 1
  · subst h1; exact ⟨_, _, _, rfl⟩
  by_cases h2 : k = 2
  · subst h2; exact ⟨_, _, _, rfl⟩
  have h3 : k = 3 := by omega
  subst h3; exact ⟨_, _, _, rfl⟩
theorem chkL_in {m : Mat} (hk : 0 ≤ m.1 ∧ m.1 ≤ 3) : chkL m = (nameL m.2.1 && mayL (decide (m.1 = 3)) m.2.2.1 m.2.2.2) := by
  unfold chkL mayL
  by_cases h : m.1 = 3
  · simp [h]
  · simp [h, hk]
theorem chkL_out {m : Mat} (hk : ¬ (0 ≤ m.1 ∧ m.1 ≤ 3)) : chkL m = false := by
  unfold chkL
  rw [if_neg (by omega), if_neg hk, Bool.and_false]
set_option maxHeartbeats 1000000 in
theorem mcheck_c (m : Mat) (A : Option Addr) (cap : Nat) (w : World) (hm : smallM m) (hS : StrsAt w A m.2.2.2.length m.2.2.2) (hT : Lib.Utf8Tabs 1 2 w) :
    Calls Tryd.prog 36 #[.agg #[.int .i64 m.1, .string (str m.2.1), .string (str m.2.2.1), .slice A m.2.2.2.length cap]] w fun e w' => e = .returned (.int .i64 (eM (chkL m))) ∧ Below w.heap.size w w' := by
  have ck := fun W => kindOf_c m.1 W
  have e0 : eM true = 0 := rfl
  have e1 : eM false = 50 := rfl
  by_cases hk : 0 ≤ m.1 ∧ m.1 ≤ 3
  · rw [decide_eq_true hk] at ck
    rw [chkL_in hk]
    obtain ⟨mark, nt, F, ek⟩ := kind_many m.1 hk
    rw [ek] at ck
    obtain ⟨z1, z2, z3, z4⟩ := hm
    obtain ⟨k, n, v, s⟩ := m
    simp only at ck hS z1 z2 z3 z4 ⊢
    obtain ⟨many, hmany⟩ : ∃ b, decide (k = 3) = b := ⟨_, rfl⟩
    rw [hmany] at ck ⊢
    unfold kindV at ck
    have hst := fun (a : Addr) (w : World) => run_store Tryd.prog w a (.func (.func F) #[] #[]) .plain rfl
    have cn := fun W => name_c n W (by omega)
    have cm := fun W h h' => mayLook_c mark nt many F v A cap s W z3 h z4 z2 h'
    have d := blk_new w (.cells #[.int .i64 k, .string (str n), .string (str v), .slice A s.length cap] 47)
    have hba : Below w.heap.size w (w.alloc (.cells #[.int .i64 k, .string (str n), .string (str v), .slice A s.length cap] 47)) := (Below.refl _ _).alloc (Nat.le_refl _) _
    have hsa : w.heap.size < (w.alloc (.cells #[.int .i64 k, .string (str n), .string (str v), .slice A s.length cap] 47)).heap.size := by simp
    have hq : ∀ W1 W, Below (w.alloc (.cells #[.int .i64 k, .string (str n), .string (str v), .slice A s.length cap] 47)).heap.size (w.alloc (.cells #[.int .i64 k, .string (str n), .string (str v), .slice A s.length cap] 47)) W1 →
        Below (W1.alloc (.cells #[.string (str mark), .bool nt, .bool many, .func (.func F) #[] #[]] 101)).heap.size (W1.alloc (.cells #[.string (str mark), .bool nt, .bool many, .func (.func F) #[] #[]] 101)) W →
        (W.cell? ⟨W1.heap.size, 0, none⟩ = some (.string (str mark)) ∧ W.cell? ⟨W1.heap.size, 1, none⟩ = some (.bool nt) ∧ W.cell? ⟨W1.heap.size, 2, none⟩ = some (.bool many) ∧ W.cell? ⟨W1.heap.size, 3, none⟩ = some (.func (.func F) #[] #[]) ∧
        W.cell? ⟨w.heap.size, 0, none⟩ = some (.int .i64 k) ∧ W.cell? ⟨w.heap.size, 1, none⟩ = some (.string (str n)) ∧ W.cell? ⟨w.heap.size, 2, none⟩ = some (.string (str v)) ∧ W.cell? ⟨w.heap.size, 3, none⟩ = some (.slice A s.length cap)) ∧ Below w.heap.size w W := fun W1 W h1 h2 => by
      have hs1 := h1.size
      have x1 := (h2.block W1.heap.size (by simp)).trans (blk_new W1 _)
      have hx := h1.trans ((((Below.refl _ W1).alloc (Nat.le_refl _) _).mono hs1).trans (h2.mono (by simp at hs1 ⊢; omega)))
      have x2 := (hx.block w.heap.size hsa).trans d
      exact ⟨⟨blk_cell x1 0, blk_cell x1 1, blk_cell x1 2, blk_cell x1 3, blk_cell x2 0, blk_cell x2 1, blk_cell x2 2, blk_cell x2 3⟩, hba.trans (hx.mono (by omega))⟩
    have hq1 : ∀ W1, Below (w.alloc (.cells #[.int .i64 k, .string (str n), .string (str v), .slice A s.length cap] 47)).heap.size (w.alloc (.cells #[.int .i64 k, .string (str n), .string (str v), .slice A s.length cap] 47)) W1 →
        w.heap.size < W1.heap.size ∧ W1.cell? ⟨w.heap.size, 0, none⟩ = some (.int .i64 k) ∧ W1.cell? ⟨w.heap.size, 1, none⟩ = some (.string (str n)) ∧ W1.cell? ⟨w.heap.size, 2, none⟩ = some (.string (str v)) ∧ W1.cell? ⟨w.heap.size, 3, none⟩ = some (.slice A s.length cap) := fun W1 h1 => by
      have x2 := (h1.block w.heap.size hsa).trans d
      have := h1.size
      exact ⟨by omega, blk_cell x2 0, blk_cell x2 1, blk_cell x2 2, blk_cell x2 3⟩
    have HQ1 := Lib.hid hq1
    clear hq1
    have HQ := Lib.hid hq
    have HR : Hid (∀ W, Below w.heap.size w W → StrsAt W A s.length s ∧ Lib.Utf8Tabs 1 2 W) := fun W hW => ⟨hS.below hW, Utf8Tabs_below hT hW⟩
    clear d hq hmany ek hk
    cases hN : nameL n with
    | false =>
      rw [hN] at cn
      rw [Bool.false_and, e1]
      clear hN
      go_enter Tryd.func36, Tryd.ntmps36
      go_wp2_with (first | (go_at_call 58; refine (ck _).mono ?_; rintro e w1 ⟨rfl, hb1⟩; obtain ⟨r0, r1, r2, r3, r4⟩ := HQ1.out _ hb1; dsimp only) | (go_at_call 59; refine (cn _).mono ?_; rintro e w2 ⟨rfl, hb2⟩; obtain ⟨⟨p0, p1, p2, p3, q0, q1, q2, q3⟩, hbw⟩ := HQ.out _ _ hb1 hb2; dsimp only))
      go_ret
      exact ⟨rfl, hbw⟩
    | true =>
      rw [hN] at cn
      rw [Bool.true_and]
      obtain ⟨b, hb⟩ : ∃ b, mayL many v s = b := ⟨_, rfl⟩
      rw [hb] at cm ⊢
      clear hN hb
      cases b
      all_goals
        go_enter Tryd.func36, Tryd.ntmps36
        go_wp2_with (first | (go_at_call 58; refine (ck _).mono ?_; rintro e w1 ⟨rfl, hb1⟩; obtain ⟨r0, r1, r2, r3, r4⟩ := HQ1.out _ hb1; dsimp only) | (go_at_call 59; refine (cn _).mono ?_; rintro e w2 ⟨rfl, hb2⟩; obtain ⟨⟨p0, p1, p2, p3, q0, q1, q2, q3⟩, hbw⟩ := HQ.out _ _ hb1 hb2; dsimp only) | (go_at_call 60; refine (cm _ (HR.out _ hbw).1 (HR.out _ hbw).2).mono ?_; rintro e w3 ⟨rfl, hb3⟩; dsimp only))
        go_ret
        exact ⟨by first | rfl | rw [e0] | rw [e1], below2 hbw hb3 hbw.size⟩
  · rw [decide_eq_false hk] at ck
    rw [chkL_out hk, e1]
    have e : kindL m.1 = kindV [] false false .nilFunc := by
      unfold kindL
      rw [if_neg (by omega), if_neg (by omega), if_neg (by omega), if_neg (by omega)]
    rw [e] at ck
    unfold kindV at ck
    have hst := fun (a : Addr) (w : World) => run_store Tryd.prog w a .nilFunc .plain rfl
    clear hk e
    go_enter Tryd.func36, Tryd.ntmps36
    go_wp2_with (go_at_call 58; refine (ck _).mono ?_; rintro e w1 ⟨rfl, hb1⟩; have hsz1 := hb1.size; dsimp only)
    go_ret
    exact ⟨rfl, (((Below.refl _ _).alloc (Nat.le_refl _) _).trans (hb1.mono (by simp))).alloc (by simp at hsz1; omega) _⟩
end Go.Proofs.YtdbifbgjbfnfmaaDoor
/-
  Layer 7 (index): without, meant, Select, the program's.
-/
namespace Go.Proofs.YtdbifbgjbfnfmaaDoor
open Go.RowKit Go.Deep
attribute [local go_sem] str_size str_append str_toList str_get str_extract
set_option linter.unusedVariables false
set_option linter.unusedSimpArgs false
/-- A row of slices of integers, as lists. -/
theorem lsAt_of {w : World} {A : Option Addr} {k cap B : Nat} {vs : List Value} {L : List (List Int)} (hrow : w.ownsRow B 40 1 (.slice A k cap) k vs) (hl : vs.length = L.length) (hk : k = L.length)
    (h : ∀ (j : Nat) v l, vs[j]? = some v → L[j]? = some l → l.length ≤ maxLen ∧ ∃ Ai ci, v = .slice Ai l.length ci ∧ IAt w Ai l.length ci l) : LsAt w A k cap L := by
  refine ⟨hk, ?_, fun i hi => ?_⟩
  · rcases hrow.2 with ⟨e, h0⟩ | ⟨g, c, cur, e, hg, hb, hc, _⟩
    · omega
    · injection e with e1 e2 e3
      omega
  · rcases hrow.2 with ⟨e, h0⟩ | ⟨g, c, cur, e, hg, hb, hc, _⟩
    · omega
    · injection e with e1 e2 e3
      subst e1
      have hv : i < vs.length := by omega
      obtain ⟨hm, Ai, ci, ev, hI⟩ := h i vs[i] L[i] (List.getElem?_eq_getElem hv) (List.getElem?_eq_getElem hi)
      have hcell := hrow.cells (g := g) rfl i vs[i] (List.getElem?_eq_getElem hv)
      rw [ev] at hcell
      refine ⟨_, Ai, ci, rfl, ?_, hcell, hI, hm⟩
      have : ((⟨g, 0, none⟩ : Addr).add i).block = g := by unfold Addr.add; split <;> rfl
      rw [this]; exact lt_of_block hb
/-- What the inner map has at a key. -/
theorem Cel.val {F : List Nat} {w : World} {P : Pst} {n v : Txt} {r : Nat} {D : DataW Value} (h : Cel F w P n v r (getS D v)) (hs : (getS D v).isSome = true) : idsP P n v ≠ [] ∧ ∃ c, valS D v = .slice (some ⟨r, 0, none⟩) (idsP P n v).length c ∧ NewI 0 (.slice (some ⟨r, 0, none⟩) (idsP P n v).length c) (idsP P n v) w := by
  unfold valS
  rcases h with ⟨h1, h2⟩ | ⟨h1, h2, c, h3, h4⟩
  · rw [h2] at hs; cases hs
  · exact ⟨h1, c, by rw [h3]; rfl, h4⟩
theorem Cel.some {F : List Nat} {w : World} {P : Pst} {n v : Txt} {r : Nat} {D : DataW Value} (h : Cel F w P n v r (getS D v)) : (getS D v).isSome = true ↔ idsP P n v ≠ [] := by
  rcases h with ⟨h1, h2⟩ | ⟨h1, h2, c, h3, h4⟩
  · simp [h1, h2]
  · simp [h1, h3]
/-- Series without a name, as a list. -/
noncomputable def noneW (X : Ix) (n : Txt) : List Int := (allI X.length).filter fun x => @decide (noneN X n x) (Classical.propDecidable _)
theorem mem_noneW {X : Ix} {n : Txt} (x : Int) : x ∈ noneW X n ↔ noneN X n x := by
  unfold noneW
  rw [List.mem_filter, @decide_eq_true_iff _ (Classical.propDecidable _)]
  exact ⟨fun h => h.2, fun h => ⟨mem_allI.2 (by obtain ⟨i, h1, h2, _⟩ := h; exact ⟨i, h1, h2⟩), h⟩⟩
/-- The inner map of a name, or none. -/
def Inner (w : World) (P : Pst) (n : Txt) (c : Nat) (m : Option Nat) (DI : DataW Value) : Prop :=
  ((m = none ∧ DI = .map []) ∨ ∃ bm, m = some bm ∧ MapS Tryd.prog 9 w bm c DI) ∧ Maps.size DI ≤ c ∧ ∀ v, ∃ F r, Cel F w P n v r (getS DI v)
theorem Inner.below {w w' : World} {P : Pst} {n : Txt} {c : Nat} {m : Option Nat} {DI : DataW Value} (h : Inner w P n c m DI) (hb : Below w.heap.size w w') : Inner w' P n c m DI := by
  refine ⟨h.1.imp (fun h => h) (fun ⟨bm, e, hm⟩ => ⟨bm, e, hm.below hb⟩), h.2.1, fun v => ?_⟩
  obtain ⟨F, r, hc⟩ := h.2.2 v
  exact ⟨F, r, hc.keeps (G := []) (Keeps.below hb) (by simp)⟩
theorem Inner.slices {w : World} {P : Pst} {n : Txt} {c : Nat} {m : Option Nat} {DI : DataW Value} (h : Inner w P n c m DI) : ∀ s v, getS DI s = some v → ∃ A n c, v = .slice A n c := fun s v hv => by
  obtain ⟨F, r, hc⟩ := h.2.2 s
  rcases hc with ⟨h1, h2⟩ | ⟨h1, h2, c, h3, h4⟩
  · rw [h2] at hv; cases hv
  · rw [h3] at hv; injection hv with hv; exact ⟨_, _, _, hv.symm⟩
/-- What a look-up of a name in the outer map gives. -/
theorem Hav.look {F : List Nat} {bo : Nat} {P : Pst} {c : Nat} {D : DataW Value} {ib : Txt → Nat} {rb : Txt → Txt → Nat} {w : World} (h : Hav F bo (hasN P) P c D ib rb w) (n : Txt) (hn : n.length ≤ maxLen) :
    ∃ m DI, Inner w P n c m DI ∧ (getS D n).getD (.map none) = .map m := by
  by_cases hh : hasN P n = true
  · obtain ⟨h1, h2, DI, h3, h4⟩ := h.inner n hh
    exact ⟨some (ib n), DI, ⟨.inr ⟨_, rfl, h3⟩, World.ownsMap.size_le h3, fun v => ⟨_, _, h4 v⟩⟩, by rw [h.get n, if_pos hh]; rfl⟩
  · refine ⟨none, .map [], ⟨.inl ⟨rfl, rfl⟩, by simp [Maps.size], fun v => ⟨[], 0, .inl ⟨?_, getS_empty v⟩⟩⟩, by rw [h.get n, if_neg hh]; rfl⟩
    exact Classical.byContradiction fun hne => hh (idsP_hasN hne)
set_option maxRecDepth 100000 in
set_option maxHeartbeats 1000000 in
theorem without_c (F : List Nat) (q : Nat) (X : Ix) (name : Txt) (w : World) (h : IsX F q X w) (hn : name.length ≤ 4096) :
    Calls Tryd.prog 64 #[.pointer (some ⟨q, 0, none⟩), .string (str name)] w fun e w' => (∃ wo A1 c1, e = .returned (.slice A1 wo.length c1) ∧ NewI 0 (.slice A1 wo.length c1) wo w' ∧ (∀ x, x ∈ wo ↔ noneN X name x) ∧ Up wo ∧ wo.length ≤ 2000) ∧ Below w.heap.size w w' := by
  have HX := Lib.hid h
  have hpl := h.good.plen
  have hX := h.good.few
  obtain ⟨B, cB, bi, bo, h1, h2, -, FH, D, ib, rb, hH⟩ := h.at
  have hc := blk_cell h1 2
  simp only [List.getElem?_toArray, List.getElem?_cons_succ, List.getElem?_cons_zero] at hc
  obtain ⟨m, DI, hI, hlg⟩ := hH.look name (by unfold maxLen; omega)
  have hlk := MapS.look (w := w) (e := 98) (z := .map none) false hH.outer Tryd.underlying9 Tryd.underlying67 (by kernel_rfl) name (by unfold maxLen; omega)
  rw [hlg] at hlk
  simp only [Bool.false_eq_true, if_false] at hlk
  have cc := Lib.hid (collected_c m _ DI w hI.1 hI.slices (by have := hI.2.1; omega))
  have HI := Lib.hid hI
  have ca := Lib.hid (fun W (hW : Below w.heap.size w W) => ixAll_c F q X W (h.below hW))
  clear h1 h2 h hI hH hlg
  go_enter Tryd.func64, Tryd.ntmps64
  go_wp2_with (first
    | (go_at_call 94; refine (mvalues_c _ _).mono ?_; rintro e w1 ⟨rfl, rfl⟩; dsimp only)
    | (go_at_call 93; refine cc.out.mono ?_; rintro e w2 ⟨⟨ss, A, c, rfl, hS, hR⟩, hb2⟩; have HR := Lib.hid (And.intro hS hR); clear hS hR; dsimp only)
    | (go_at_call 37; refine (ca.out _ hb2).mono ?_; rintro e w3 ⟨⟨A3, c3, rfl, hN3⟩, hb3⟩; have HN3 := Lib.hid hN3; clear hN3; dsimp only))
  have hls : LsAt w2 A ss.length c (ss.map (idsP (pstX X) name)) := lsAt_of HR.out.2 (by simp) (by simp) (fun j v l hv hl => by
    simp only [List.getElem?_map, Option.map_eq_some_iff] at hv hl
    obtain ⟨s, hs, rfl⟩ := hv
    obtain ⟨s', hs', rfl⟩ := hl
    obtain rfl : s = s' := by rw [hs] at hs'; injection hs'
    obtain ⟨F1, r, hcl⟩ := (HI.out.below hb2).2.2 s
    obtain ⟨k1, cx, k2, k3⟩ := hcl.val ((HR.out.1.2.1 s).1 (List.mem_of_getElem? hs))
    obtain ⟨Ai, ci, e, hI⟩ := NewI.at k3
    refine ⟨by have := idsP_len (pstX X) name s; unfold maxLen; omega, Ai, ci, ?_, hI⟩
    rw [k2]; exact e)
  have hlen : allLen (ss.map (idsP (pstX X) name)) ≤ 1600 := Nat.le_trans (allLen_ids _ _ HR.out.1.1) hpl
  have hss : ss.length ≤ 3200 := by have := HR.out.1.2.2; have := HI.out.2.1; omega
  have hU : ∀ l ∈ ss.map (idsP (pstX X) name), Up l := fun l hl => by obtain ⟨s, _, rfl⟩ := List.mem_map.1 hl; exact HX.out.good.up name s
  have cu := Lib.hid (fun W (hW : Below w2.heap.size w2 W) => union_c ss.length (ss.map (idsP (pstX X) name)) A ss.length c W (by simp) (by omega) (hls.below hW) hU (by omega))
  refine (cu.out _ hb3).mono ?_
  rintro e w4 ⟨⟨u, A4, c4, rfl, hR4, hU4⟩, hb4⟩
  have hul : u.length ≤ 1600 := Nat.le_trans hU4.2.2 hlen
  have hal := allI_len X.length
  have hI3 : IAt w4 A3 X.length c3 (allI X.length) := by
    obtain ⟨A', c', e, hI⟩ := NewI.at (HN3.out.below hb4)
    rw [allI_len] at e hI
    injection e with e1 e2 e3
    subst e1 e3
    exact hI
  have cn := Lib.hid (not_c A3 A4 X.length u.length c3 c4 (allI X.length) u w4 (by omega) (by omega) hI3 (Row.at hR4))
  have HU := Lib.hid (And.intro hU4 hul)
  clear hls hlen hss hU hU4 hR4 hI3 hul hal
  go_wp2_with (first
    | (go_at_call 95; refine cn.out.mono ?_; rintro e w5 ⟨⟨v, rfl, hN5⟩, hb5⟩; obtain ⟨A5, c5, rfl, -⟩ := hN5.at; have HN5 := Lib.hid hN5; clear hN5; dsimp only))
  go_ret
  have hup := allI_up X.length
  refine ⟨⟨_, A5, c5, rfl, HN5.out.mono (Nat.zero_le _), fun x => ?_, up_merge _ _ _ hup HU.out.1.1, ?_⟩, hb2.trans ((hb3.trans ((hb4.trans (hb5.mono hb4.size)).mono hb3.size)).mono hb2.size)⟩
  · refine without_mem HX.out.good (fun s hs => ?_) HU.out.1 hup (fun x => mem_allI) x
    obtain ⟨F1, r, hcl⟩ := HI.out.2.2 s
    exact (HR.out.1.2.1 s).2 (hcl.some.2 hs)
  · have h1 := len_merge fNot (allI X.length) u
    rw [allI_len] at h1
    have := HU.out.2
    omega
theorem walks_below {w w' : World} (h : Below w.heap.size w w') : KeepsWalks w w' := ⟨h.size, fun k o hk _ => (h.block k (lt_of_block hk)).trans hk⟩
theorem filter_snoc {α : Type} (p : α → Bool) (l : List α) (x : α) : (l ++ [x]).filter p = if p x = true then l.filter p ++ [x] else l.filter p := by
  rw [List.filter_append]
  cases h : p x <;> simp [h]
theorem lat_one (w : World) (a b : Txt) (ha : a.length ≤ 9223372036854775807) (hb : b.length ≤ 9223372036854775807) : LAt (w.alloc (.cells #[.string (str a), .string (str b)] 60)) (some ⟨w.heap.size, 0, none⟩) 1 [(a, b)] := by
  refine ⟨rfl, fun i hi => ?_⟩
  have hi0 : i = 0 := by simp at hi; omega
  subst hi0
  exact ⟨⟨ha, hb⟩, _, rfl, by simp [Addr.add], by simp [Addr.add], by simp [Addr.add]⟩
theorem key_short {X : Ix} (hG : Good X) {n s : Txt} (h : idsP (pstX X) n s ≠ []) : s.length ≤ 32 := by
  obtain ⟨x, hx⟩ := List.exists_mem_of_ne_nil _ h
  obtain ⟨j, rfl, hm⟩ := mem_idsP.1 hx
  obtain ⟨hj, hm⟩ := mem_pstX.1 hm
  exact (okL_32 (hG.ok _ (List.getElem_mem hj)) _ hm).2
set_option maxRecDepth 100000 in
set_option maxHeartbeats 2000000 in
theorem ixMeant_c (F : List Nat) (q : Nat) (X : Ix) (m : Mat) (S : Option Addr) (sc : Nat) (w : World) (h : IsX F q X w) (hm : SmallM m) (hS : StrsAt w S m.2.2.2.length m.2.2.2) :
    Calls Tryd.prog 39 #[.pointer (some ⟨q, 0, none⟩), .agg #[.int .i64 m.1, .string (str m.2.1), .string (str m.2.2.1), .slice S m.2.2.2.length sc]] w fun e w' => (∃ A1 c1, e = .returned (.slice A1 (meantM X m).length c1) ∧ NewI 0 (.slice A1 (meantM X m).length c1) (meantM X m) w') ∧ Below w.heap.size w w' := by
  have HX := Lib.hid h
  have hpl := h.good.plen
  have hX := h.good.few
  obtain ⟨B, cB, bi, bo, h1, h2, -, FH, D, ib, rb, hH⟩ := h.at
  have hc := blk_cell h1 2
  have hql := lt_of_block h1
  simp only [List.getElem?_toArray, List.getElem?_cons_succ, List.getElem?_cons_zero] at hc
  obtain ⟨mo, DI, hI, hlg⟩ := hH.look m.2.1 (by have := hm.1; unfold maxLen; omega)
  have hlk := fun (W : World) (hW : Below w.heap.size w W) => MapS.look (w := W) (e := 98) (z := .map none) false (hH.outer.below hW) Tryd.underlying9 Tryd.underlying67 (by kernel_rfl) m.2.1 (by have := hm.1; unfold maxLen; omega)
  rw [hlg] at hlk
  simp only [Bool.false_eq_true, if_false] at hlk
  have c1 := Lib.hid (fun W B len capB l (hW : Below w.heap.size w W) (hl : len ≤ 140737488355328) (hA : LAt W B len l) hz => one_c m S sc B len capB l W (by have := hm.2.2.1; omega) (hS.below hW) hl hA hz)
  have cw := Lib.hid (fun W (hW : Below w.heap.size w W) => without_c F q X m.2.1 W (h.below hW) (by have := hm.1; omega))
  have HI := Lib.hid hI
  have HL := Lib.hid hlk
  have HC := Lib.hid (fun (W : World) (hW : Below w.heap.size w W) => (hW.cell (p := ⟨q, 2, none⟩) hql).trans hc)
  obtain ⟨R, hR⟩ : ∃ R, meantM X m = R := ⟨_, rfl⟩
  have hf0 : ∀ fs : List Txt, (∀ s, idsP (pstX X) m.2.1 s ≠ [] → (s ∈ fs ↔ oneL m [(m.2.1, s)] = true)) → ∀ (wo : List Int), (∀ x, x ∈ wo ↔ noneN X m.2.1 x) → ∀ u, IsUnion (fs.map (idsP (pstX X) m.2.1) ++ if oneL m [] = true then [wo] else []) u → u = R := fun fs h1 wo h2 u h3 => by rw [← hR]; exact meant_union HX.out.good h1 h2 h3
  have HF := Lib.hid hf0
  have hn1 := hm.1
  have hone : ∀ s, oneL m [(m.2.1, s)] = oneL m [(m.2.1, s)] := fun _ => rfl
  obtain ⟨k1, n1, v1, s1⟩ := m
  simp only at c1 cw HI HL HF hR hn1 ⊢
  rw [hR]
  obtain ⟨ns, hns⟩ : ∃ ns, s1.length = ns := ⟨_, rfl⟩
  rw [hns] at c1 ⊢
  obtain ⟨P1, hP1⟩ : ∃ p : Txt → Bool, p = fun s => oneL (k1, n1, v1, s1) [(n1, s)] := ⟨_, rfl⟩
  obtain ⟨O0, hO0⟩ : ∃ o : Bool, oneL (k1, n1, v1, s1) [] = o := ⟨_, rfl⟩
  have HP1 := Lib.hid hP1
  have HO0 := Lib.hid hO0
  clear h1 h2 h hI hH hlg hlk hc hf0 hone hm hS hR hns hP1 hO0
  have d0 := blk_new w (.cells #[.int .i64 k1, .string (str n1), .string (str v1), .slice S ns sc] 47)
  have hb0 : Below w.heap.size w (w.alloc (.cells #[.int .i64 k1, .string (str n1), .string (str v1), .slice S ns sc] 47)) := (Below.refl _ w).alloc (Nat.le_refl _) _
  have hs0 : (w.alloc (.cells #[.int .i64 k1, .string (str n1), .string (str v1), .slice S ns sc] 47)).heap.size = w.heap.size + 1 := by simp
  go_enter Tryd.func39, Tryd.ntmps39
  go_wp2_with fail
  generalize w.alloc (.cells #[.int .i64 k1, .string (str n1), .string (str v1), .slice S ns sc] 47) = W0 at *
  have HD := Lib.hid (fun (W : World) (hW : Below (w.heap.size + 1) W0 W) => (hW.block w.heap.size (by omega)).trans d0)
  have S0 := And.intro (HC.out W0.drew hb0.drew) (And.intro (blk_cell (HD.out W0.drew ((Below.refl _ _).drew)) 1) (HL.out W0.drew hb0.drew))
  simp only [List.getElem?_toArray, List.getElem?_cons_succ, List.getElem?_cons_zero] at S0
  rcases HI.out.1 with ⟨rfl, rfl⟩ | ⟨bm, rfl, hM⟩
  · have hrg := run_range_nilMap (P := Tryd.prog) W0.drew 98 9 40 Tryd.underlying98
    refine wp_region_held_drew (S := fun W => W.cell? ⟨q, 2, none⟩ = some (.map (some bo)) ∧ W.cell? ⟨w.heap.size, 1, none⟩ = some (.string (str n1)) ∧ (Instr.lookup 67 (.map (some bo)) (.string (str n1)) false).run Tryd.prog W = .ok (.map none) W) (by kernel_rfl) S0 (fun hHeld => ?_)
    clear S0
    refine held_w (i := 0) (d := some 8) (v := ?_) rfl (by kernel_rfl) (by kernel_rfl) (by kernel_rfl) (fun _ _ _ h => h) (by rfl) ?_ hHeld ?_
    rotate_left
    · intro w' hSw; obtain ⟨q0, q1, q2⟩ := hSw; simp only [List.getElem?_toArray, List.getElem?_cons_zero, List.getElem?_cons_succ]; go_simp; try with_reducible rfl
    try simp only [Act.put, List.setIfInBounds_toArray, List.set_cons_zero, List.set_cons_succ]
    refine held_w (i := 1) (d := some 9) (v := ?_) rfl (by kernel_rfl) (by kernel_rfl) (by kernel_rfl) (fun _ _ _ h => h) (by rfl) ?_ hHeld ?_
    rotate_left
    · intro w' hSw; obtain ⟨q0, q1, q2⟩ := hSw; simp only [List.getElem?_toArray, List.getElem?_cons_zero, List.getElem?_cons_succ]; go_simp; try with_reducible rfl
    try simp only [Act.put, List.setIfInBounds_toArray, List.set_cons_zero, List.set_cons_succ]
    refine held_w (i := 2) (d := some 10) (v := ?_) rfl (by kernel_rfl) (by kernel_rfl) (by kernel_rfl) (fun _ _ _ h => h) (by rfl) ?_ hHeld ?_
    rotate_left
    · intro w' hSw; obtain ⟨q0, q1, q2⟩ := hSw; simp only [List.getElem?_toArray, List.getElem?_cons_zero, List.getElem?_cons_succ]; go_simp; try with_reducible rfl
    try simp only [Act.put, List.setIfInBounds_toArray, List.set_cons_zero, List.set_cons_succ]
    refine held_w (i := 3) (d := some 11) (v := ?_) rfl (by kernel_rfl) (by kernel_rfl) (by kernel_rfl) (fun _ _ _ h => h) (by rfl) ?_ hHeld ?_
    rotate_left
    · intro w' hSw; obtain ⟨q0, q1, q2⟩ := hSw; simp only [List.getElem?_toArray, List.getElem?_cons_zero, List.getElem?_cons_succ]; go_simp; try with_reducible rfl
    try simp only [Act.put, List.setIfInBounds_toArray, List.set_cons_zero, List.set_cons_succ]
    refine held_w (i := 4) (d := some 12) (v := ?_) rfl (by kernel_rfl) (by kernel_rfl) (by kernel_rfl) (fun _ _ _ h => h) (by rfl) ?_ hHeld ?_
    rotate_left
    · intro w' hSw; obtain ⟨q0, q1, q2⟩ := hSw; simp only [List.getElem?_toArray, List.getElem?_cons_zero, List.getElem?_cons_succ]; go_simp; try with_reducible rfl
    try simp only [Act.put, List.setIfInBounds_toArray, List.set_cons_zero, List.set_cons_succ]
    refine held_w (i := 5) (d := some 13) (v := ?_) rfl (by kernel_rfl) (by kernel_rfl) (by kernel_rfl) (fun _ _ _ h => h) (by rfl) ?_ hHeld ?_
    rotate_left
    · intro w' hSw; obtain ⟨q0, q1, q2⟩ := hSw; simp only [List.getElem?_toArray, List.getElem?_cons_zero, List.getElem?_cons_succ]; go_simp; try with_reducible rfl
    try simp only [Act.put, List.setIfInBounds_toArray, List.set_cons_zero, List.set_cons_succ]
    refine held_w (i := 6) (d := some 14) (v := ?_) rfl (by kernel_rfl) (by kernel_rfl) (by kernel_rfl) (fun _ _ _ h => h) (by rfl) ?_ hHeld ?_
    rotate_left
    · intro w' hSw; obtain ⟨q0, q1, q2⟩ := hSw; simp only [List.getElem?_toArray, List.getElem?_cons_zero, List.getElem?_cons_succ]; go_simp; try with_reducible rfl
    try simp only [Act.put, List.setIfInBounds_toArray, List.set_cons_zero, List.set_cons_succ]
    refine held_c (i := 7) (by kernel_rfl) (by rfl) (fun K hK => ?_)
    simp only [List.getElem?_toArray, List.getElem?_cons_zero, List.getElem?_cons_succ]
    go_simp
    have hb1 : Below w.heap.size w (W0.drew.alloc (.mapIter none 0 #[] 0)) := (hb0.drew).alloc (by have := hb0.size; simp; omega) _
    have hb01 : Below (w.heap.size + 1) W0 (W0.drew.alloc (.mapIter none 0 #[] 0)) := ((Below.refl _ W0).drew).alloc (by simp; omega) _
    have e1 := blk_cell (HD.out _ hb01) 1
    simp only [List.getElem?_toArray, List.getElem?_cons_succ, List.getElem?_cons_zero] at e1
    refine hK.out _ _ ⟨HC.out _ hb1, e1, HL.out _ hb1⟩ (fun hHeld => ?_)
    clear hK K e1
    try simp only [Act.put, List.setIfInBounds_toArray, List.set_cons_zero, List.set_cons_succ]
    refine wpAnyH_done (by kernel_rfl) ?_ _
    skip
    go_wp2_with fail
    have hnx : ∀ ty, (Instr.next (.pointer (some ⟨w.heap.size + 1, 0, none⟩)) false ty).run Tryd.prog ((W0.alloc (.mapIter none 0 #[] 0)).drew) = .ok (.tuple #[.bool false]) ((W0.alloc (.mapIter none 0 #[] 0)).drew) := fun ty => by rw [← hs0]; exact run_next_nilMap W0.drew ty 0 0 #[]
    have hb : Below w.heap.size w ((W0.alloc (.mapIter none 0 #[] 0)).drew) := hb1
    have hbb : Below (w.heap.size + 1) W0 ((W0.alloc (.mapIter none 0 #[] 0)).drew) := hb01
    have hs1w : w.heap.size + 1 ≤ ((W0.alloc (.mapIter none 0 #[] 0)).drew).heap.size := by simp; omega
    have hW0 : W0.drew.heap.size = W0.heap.size := rfl
    generalize (W0.alloc (.mapIter none 0 #[] 0)).drew = wr at *
    have HIv := Lib.hid (fun (W : World) (hW : Below w.heap.size w W) => HI.out.below hW)
    obtain ⟨i0, hi0, hz0, hz1, hz2⟩ := info_parts lists_info
    have HO : Hid (wr.ownsRow (w.heap.size + 1) 40 1 (.slice none 0 0) 0 (([] : List Txt).map (valS (.map [])))) := ⟨rfl, .inl ⟨rfl, rfl⟩⟩
    have HFS : Hid (([] : List Txt).Nodup ∧ (∀ s ∈ ([] : List Txt), (getS (.map []) s).isSome = true) ∧ (∀ s, idsP (pstX X) n1 s ≠ [] → (s ∈ ([] : List Txt) ↔ oneL (k1, n1, v1, s1) [(n1, s)] = true)) ∧ ([] : List Txt).length ≤ 3200) := by
      refine ⟨List.nodup_nil, by simp, fun s hs => ?_, by simp⟩
      obtain ⟨F1, r, hcl⟩ := HI.out.2.2 s
      have := hcl.some.2 hs
      rw [getS_empty] at this
      cases this
    clear hHeld d0 hs0 hb0 hb1 hb01 HL hrg hW0
    refine wp_loop_rounds 1 ?_
    rw [rounds_succ]
    have hq0 := HD.out wr hbb
    have x0 := blk_cell hq0 0
    have x1 := blk_cell hq0 1
    have x2 := blk_cell hq0 2
    have x3 := blk_cell hq0 3
    simp only [List.getElem?_toArray, List.getElem?_cons_succ, List.getElem?_cons_zero] at x0 x1 x2 x3
    have hfl : ([] : List Txt).length = 0 := rfl
    have hls : ∀ W A1 c1 (wo : List Int) (vs : List Value), Below w.heap.size w W → (∀ v ∈ vs, ∃ Ai ci, v = .slice Ai wo.length ci ∧ IAt W Ai wo.length ci wo) → wo.length ≤ 2000 → vs.length ≤ 1 → W.ownsRow (w.heap.size + 1) 40 1 (.slice A1 (0 + vs.length) c1) (0 + vs.length) (([] : List Txt).map (valS (.map [])) ++ vs) → LsAt W A1 (0 + vs.length) c1 (([] : List Txt).map (idsP (pstX X) n1) ++ vs.map (fun _ => wo)) := fun W A1 c1 wo vs hW hvs hwl hv1 hrow => by
      refine lsAt_of hrow (by simp) (by simp [hfl]) (fun j v l hv hl => ?_)
      rcases Nat.lt_or_ge j ([] : List Txt).length with hj | hj
      · rw [List.getElem?_append_left (by simp at hj)] at hv hl
        simp only [List.getElem?_map, Option.map_eq_some_iff] at hv hl
        obtain ⟨s, hs, rfl⟩ := hv
        obtain ⟨s', hs', rfl⟩ := hl
        obtain rfl : s = s' := by rw [hs] at hs'; injection hs'
        obtain ⟨F1, r, hcl⟩ := (HIv.out W hW).2.2 s
        obtain ⟨k1, cx, k2, k3⟩ := hcl.val (HFS.out.2.1 s (List.mem_of_getElem? hs))
        obtain ⟨Ai, ci, e, hI⟩ := NewI.at k3
        refine ⟨by have := idsP_len (pstX X) n1 s; unfold maxLen; omega, Ai, ci, ?_, hI⟩
        rw [k2]; exact e
      · rw [List.getElem?_append_right (by simp)] at hv hl
        simp only [List.getElem?_map, Option.map_eq_some_iff] at hl
        obtain ⟨_, _, rfl⟩ := hl
        obtain ⟨Ai, ci, e, hI⟩ := hvs v (List.mem_of_getElem? hv)
        exact ⟨by unfold maxLen; omega, Ai, ci, e, hI⟩
    have HLS := Lib.hid hls
    have hlen : allLen (([] : List Txt).map (idsP (pstX X) n1)) ≤ 1600 := Nat.le_trans (allLen_ids _ _ HFS.out.1) hpl
    have hU : ∀ l ∈ ([] : List Txt).map (idsP (pstX X) n1), Up l := fun l hl => by obtain ⟨s, _, rfl⟩ := List.mem_map.1 hl; exact HX.out.good.up n1 s
    have HU := Lib.hid (And.intro hlen hU)
    have HFL := Lib.hid hfl
    clear hls hlen hU hq0
    cases O0 with
    | false =>
      go_wp2_with (first
        | (go_at_call 63; refine (c1.out wr none 0 0 [] hb (by omega) (LAt.nil _ _) (by simp)).mono ?_; rintro e w2 ⟨rfl, hb2⟩; rw [HO0.out]; dsimp only))
      have hb3 := below2 hb hb2 hb.size
      have hl2 := HLS.out w2 none 0 [] [] hb3 (by simp) (by simp) (by simp) (by simpa using (Keeps.below (F := []) hb2).row HO.out (by simp))
      have cu := union_c 0 (([] : List Txt).map (idsP (pstX X) n1)) none 0 0 w2 (by simp) (by omega) (by simpa using hl2) HU.out.2 (by have := HU.out.1; omega)
      refine cu.mono ?_
      rintro e w4 ⟨⟨u, A4, c4, rfl, hR4, hU4⟩, hb4⟩
      have hu := HF.out ([] : List Txt) HFS.out.2.2.1 (noneW X n1) (fun x => mem_noneW x) u (by rw [HO0.out]; simpa using hU4)
      subst hu
      have HR4 := Lib.hid hR4
      clear hl2 cu hR4 hU4
      go_wp2_with fail
      go_ret
      exact ⟨⟨A4, c4, rfl, HR4.out⟩, below2 hb3 hb4 hb3.size⟩
    | true =>
      go_wp2_with (first
        | (go_at_call 63; refine (c1.out wr none 0 0 [] hb (by omega) (LAt.nil _ _) (by simp)).mono ?_; rintro e w2 ⟨rfl, hb2⟩; rw [HO0.out]; have hq2 := HD.out w2 (hbb.trans (hb2.mono (by have := hbb.size; have := hb.size; omega))); have y1 := blk_cell hq2 1; simp only [List.getElem?_toArray, List.getElem?_cons_succ, List.getElem?_cons_zero] at y1; have hb3 := below2 hb hb2 hb.size; clear hq2; dsimp only)
        | (go_at_call 64; refine (cw.out w2 hb3).mono ?_; rintro e w3 ⟨⟨wo, Aw, cx, rfl, hNw, hw1, hw2, hw3⟩, hb4⟩; have HW := Lib.hid (And.intro hNw (And.intro hw1 (And.intro hw2 hw3))); have HO3 := Lib.hid ((Keeps.below (F := []) hb4).row ((Keeps.below (F := []) hb2).row HO.out (by simp)) (by simp)); have hb5 := below2 hb3 hb4 hb3.size; have hs5 := hb5.size; have hs6 : w.heap.size + 1 ≤ w3.heap.size := Nat.le_trans hs1w (Nat.le_trans hb2.size hb4.size); clear hNw hw1 hw2 hw3; dsimp only)
        | (at_builtin; refine wpList_append_own_at _ rfl _ _ 107 rfl (w.heap.size + 1) 40 i0 (.slice none 0 0) 1 24 Tryd.underlying107 hi0 hz0 hz1 hz2 rfl (by decide) (.slice none 0 0) 0 (([] : List Txt).map (valS (.map []))) rfl (HO3.out.alloc _) ⟨w3.heap.size, 0, none⟩ 1 1 [.slice Aw wo.length cx] rfl rfl (cell_one_new _ _ _) (by intro u hu; simp at hu; subst hu; rfl) (by unfold maxLen; omega) (by omega) (by simp; omega) ?_; intro v4 w4 hown4 hg4 _ _; have hg4 : (w3.alloc (.cells #[.slice Aw wo.length cx] 40)).grownBy w4 (Value.slice none 0 0).ownBlock := hg4; obtain ⟨A4, c4, rfl⟩ := row_slice hown4; have hb6 : Below w.heap.size w w4 := (hb5.alloc hs5 _).grown hg4 (by simp; omega) (fun k hk => by have := (HO3.out.lt k hk).1; omega); have hb7 : Below w3.heap.size w3 w4 ∨ True := .inr trivial; have HK6 := Lib.hid (((Keeps.refl (Value.slice none 0 0).ownBlock.toList w3).alloc (.cells #[.slice Aw wo.length cx] 40)).grown hg4 (fun k hk => by left; simp [hk])); have HO4 := Lib.hid hown4; clear hown4 hg4))
      have hN4 := HW.out.1.keeps HK6.out (fun k hk hm => by
        simp only [Option.mem_toList] at hm
        obtain ⟨cs, hcs⟩ := row_block HO3.out hm
        exact row_apart HW.out.1.own hcs (by decide) k hk rfl)
      obtain ⟨Ai, ci, eI, hI4⟩ := NewI.at hN4
      have hl4 := HLS.out w4 A4 c4 wo [.slice Aw wo.length cx] hb6 (fun v hv => by simp at hv; subst hv; exact ⟨Ai, ci, eI, hI4⟩) HW.out.2.2.2 (by simp) HO4.out
      have cu := union_c (0 + 1) (([] : List Txt).map (idsP (pstX X) n1) ++ [wo]) A4 (0 + 1) c4 w4 (by simp) (by omega) hl4 (fun l hl => by
        rcases List.mem_append.1 hl with hl | hl
        · exact HU.out.2 l hl
        · simp at hl; subst hl; exact HW.out.2.2.1) (by
          rw [allLen_append]
          have h1 := HU.out.1
          have h2 : allLen [wo] = wo.length := by simp [allLen]
          have h3 := HW.out.2.2.2
          omega)
      refine cu.mono ?_
      rintro e w5 ⟨⟨u, A5, c5, rfl, hR5, hU5⟩, hb8⟩
      have hu := HF.out ([] : List Txt) HFS.out.2.2.1 wo HW.out.2.1 u (by rw [HO0.out]; simpa using hU5)
      subst hu
      have HR5 := Lib.hid hR5
      clear hl4 cu hR5 hU5 hN4 hI4 eI
      go_wp2_with fail
      go_ret
      exact ⟨⟨A5, c5, rfl, HR5.out⟩, below2 hb6 hb8 hb6.size⟩
  · have hMb := Lib.hid (hM.below hb0)
    refine wp_region_held_drew (S := fun W => W.cell? ⟨q, 2, none⟩ = some (.map (some bo)) ∧ W.cell? ⟨w.heap.size, 1, none⟩ = some (.string (str n1)) ∧ (Instr.lookup 67 (.map (some bo)) (.string (str n1)) false).run Tryd.prog W = .ok (.map (some bm)) W) (by kernel_rfl) S0 (fun hHeld => ?_)
    clear S0 hM
    refine held_w (i := 0) (d := some 8) (v := ?_) rfl (by kernel_rfl) (by kernel_rfl) (by kernel_rfl) (fun _ _ _ h => h) (by rfl) ?_ hHeld ?_
    rotate_left
    · intro w' hSw; obtain ⟨q0, q1, q2⟩ := hSw; simp only [List.getElem?_toArray, List.getElem?_cons_zero, List.getElem?_cons_succ]; go_simp; try with_reducible rfl
    try simp only [Act.put, List.setIfInBounds_toArray, List.set_cons_zero, List.set_cons_succ]
    refine held_w (i := 1) (d := some 9) (v := ?_) rfl (by kernel_rfl) (by kernel_rfl) (by kernel_rfl) (fun _ _ _ h => h) (by rfl) ?_ hHeld ?_
    rotate_left
    · intro w' hSw; obtain ⟨q0, q1, q2⟩ := hSw; simp only [List.getElem?_toArray, List.getElem?_cons_zero, List.getElem?_cons_succ]; go_simp; try with_reducible rfl
    try simp only [Act.put, List.setIfInBounds_toArray, List.set_cons_zero, List.set_cons_succ]
    refine held_w (i := 2) (d := some 10) (v := ?_) rfl (by kernel_rfl) (by kernel_rfl) (by kernel_rfl) (fun _ _ _ h => h) (by rfl) ?_ hHeld ?_
    rotate_left
    · intro w' hSw; obtain ⟨q0, q1, q2⟩ := hSw; simp only [List.getElem?_toArray, List.getElem?_cons_zero, List.getElem?_cons_succ]; go_simp; try with_reducible rfl
    try simp only [Act.put, List.setIfInBounds_toArray, List.set_cons_zero, List.set_cons_succ]
    refine held_w (i := 3) (d := some 11) (v := ?_) rfl (by kernel_rfl) (by kernel_rfl) (by kernel_rfl) (fun _ _ _ h => h) (by rfl) ?_ hHeld ?_
    rotate_left
    · intro w' hSw; obtain ⟨q0, q1, q2⟩ := hSw; simp only [List.getElem?_toArray, List.getElem?_cons_zero, List.getElem?_cons_succ]; go_simp; try with_reducible rfl
    try simp only [Act.put, List.setIfInBounds_toArray, List.set_cons_zero, List.set_cons_succ]
    refine held_w (i := 4) (d := some 12) (v := ?_) rfl (by kernel_rfl) (by kernel_rfl) (by kernel_rfl) (fun _ _ _ h => h) (by rfl) ?_ hHeld ?_
    rotate_left
    · intro w' hSw; obtain ⟨q0, q1, q2⟩ := hSw; simp only [List.getElem?_toArray, List.getElem?_cons_zero, List.getElem?_cons_succ]; go_simp; try with_reducible rfl
    try simp only [Act.put, List.setIfInBounds_toArray, List.set_cons_zero, List.set_cons_succ]
    refine held_w (i := 5) (d := some 13) (v := ?_) rfl (by kernel_rfl) (by kernel_rfl) (by kernel_rfl) (fun _ _ _ h => h) (by rfl) ?_ hHeld ?_
    rotate_left
    · intro w' hSw; obtain ⟨q0, q1, q2⟩ := hSw; simp only [List.getElem?_toArray, List.getElem?_cons_zero, List.getElem?_cons_succ]; go_simp; try with_reducible rfl
    try simp only [Act.put, List.setIfInBounds_toArray, List.set_cons_zero, List.set_cons_succ]
    refine held_w (i := 6) (d := some 14) (v := ?_) rfl (by kernel_rfl) (by kernel_rfl) (by kernel_rfl) (fun _ _ _ h => h) (by rfl) ?_ hHeld ?_
    rotate_left
    · intro w' hSw; obtain ⟨q0, q1, q2⟩ := hSw; simp only [List.getElem?_toArray, List.getElem?_cons_zero, List.getElem?_cons_succ]; go_simp; try with_reducible rfl
    try simp only [Act.put, List.setIfInBounds_toArray, List.set_cons_zero, List.set_cons_succ]
    refine held_c (i := 7) (by kernel_rfl) (by rfl) (fun K hK => ?_)
    simp only [List.getElem?_toArray, List.getElem?_cons_zero, List.getElem?_cons_succ]
    refine wp_range _ (.tmp 14) 98 rfl 9 40 Tryd.underlying9 Tryd.underlying98 bm _ DI rfl hMb.out ?_
    intro w1 hrg1 hg1 hs1
    have hb1 : Below w.heap.size w w1 := (hb0.drew).grown hg1 (by have := hb0.size; simp; omega) (fun k hk => by cases hk)
    have hb01 : Below (w.heap.size + 1) W0 w1 := ((Below.refl _ W0).drew).grown hg1 (by simp; omega) (fun k hk => by cases hk)
    have e1 := blk_cell (HD.out w1 hb01) 1
    simp only [List.getElem?_toArray, List.getElem?_cons_succ, List.getElem?_cons_zero] at e1
    refine hK.out _ _ ⟨HC.out w1 hb1, e1, HL.out w1 hb1⟩ (fun hHeld => ?_)
    have hrg1 : w1.ranges Tryd.prog 9 anyE bm (w.heap.size + 1) (2 * (pstX X).length) DI (Maps.has DI) (Maps.size DI) := by
      have e : W0.drew.heap.size = w.heap.size + 1 := hs0
      rw [e] at hrg1; exact hrg1
    have HRG := Lib.hid hrg1
    clear hK K hrg1 hg1 e1 hs1
    try simp only [Act.put, List.setIfInBounds_toArray, List.set_cons_zero, List.set_cons_succ]
    refine wpAnyH_done (by kernel_rfl) ?_ _
    skip
    go_wp2_with fail
    rw [show W0.drew.heap.size = w.heap.size + 1 from hs0]
    have HB1 := Lib.hid (And.intro hb1 hb01)
    have HIv := Lib.hid (fun (W : World) (hW : Below w.heap.size w W) => HI.out.below hW)
    obtain ⟨i0, hi0, hz0, hz1, hz2⟩ := info_parts lists_info
    clear hHeld d0 hs0 hb1 hb01 HL
    go_loopw [5] (fun v wr => ∃ (left : Lit → Bool) (cnt : Nat) (ss : List Txt) (A1 : Option Addr) (cap1 : Nat), v = .slice A1 (ss.filter P1).length cap1 ∧ Hid (wr.ranges Tryd.prog 9 anyE bm (w.heap.size + 1) (2 * (pstX X).length) DI left cnt ∧ Coll DI left ss ∧ ss.length + cnt ≤ Maps.size DI) ∧
      Hid (wr.ownsRow (w.heap.size + 1) 40 1 (.slice A1 (ss.filter P1).length cap1) (ss.filter P1).length ((ss.filter P1).map (valS DI))) ∧ Below w.heap.size w wr ∧ Below (w.heap.size + 1) W0 wr) (fun _ wr => wr.rangeLeft bm (w.heap.size + 1))
    case atStart => exact ⟨_, _, [], none, 0, rfl, ⟨HRG.out, Coll.start DI, by simp⟩, ⟨rfl, .inl ⟨rfl, rfl⟩⟩, HB1.out.1, HB1.out.2⟩
    case round =>
      obtain ⟨left, cnt, ss, A1, cap1, rfl, HR, HO, hb, hbb⟩ := hrel
      have hbs := hb.size
      go_wp2_with (first | (at_next; refine wpList_next_s _ rfl (.tmp 15) rfl 9 Tryd.underlying9 bm (w.heap.size + 1) (2 * (pstX X).length) DI left cnt rfl HR.out.1 ?_ ?_))
      case refine_1 =>
        intro h0 hl0
        have hal := HR.out.2.1.all hl0
        obtain ⟨fs, hfs⟩ : ∃ x, ss.filter P1 = x := ⟨_, rfl⟩
        have HFS : Hid (fs.Nodup ∧ (∀ s ∈ fs, (getS DI s).isSome = true) ∧ (∀ s, idsP (pstX X) n1 s ≠ [] → (s ∈ fs ↔ oneL (k1, n1, v1, s1) [(n1, s)] = true)) ∧ fs.length ≤ 3200) := by
          show _ ∧ _
          rw [← hfs]
          refine ⟨hal.1.filter _, fun s hs => (hal.2 s).1 (List.mem_filter.1 hs).1, fun s hs => ?_, ?_⟩
          · obtain ⟨F1, r, hcl⟩ := HI.out.2.2 s
            rw [List.mem_filter, hal.2 s, HP1.out]
            exact ⟨fun h => h.2, fun h => ⟨hcl.some.2 hs, h⟩⟩
          · have h1 := List.length_filter_le P1 ss
            have h2 := HR.out.2.2
            have h3 := HI.out.2.1
            omega
        rw [hfs] at HO ⊢
        have hs1w : w.heap.size + 1 ≤ wr.heap.size := Nat.le_of_lt (World.ranges.lt HR.out.1)
        clear hal hfs HR
        have hq0 := HD.out wr hbb
        have x0 := blk_cell hq0 0
        have x1 := blk_cell hq0 1
        have x2 := blk_cell hq0 2
        have x3 := blk_cell hq0 3
        simp only [List.getElem?_toArray, List.getElem?_cons_succ, List.getElem?_cons_zero] at x0 x1 x2 x3
        obtain ⟨fl, hfl⟩ : ∃ n, fs.length = n := ⟨_, rfl⟩
        have hfl3 : fl ≤ 3200 := by rw [← hfl]; exact HFS.out.2.2.2
        have hls : ∀ W A1 c1 (wo : List Int) (vs : List Value), Below w.heap.size w W → (∀ v ∈ vs, ∃ Ai ci, v = .slice Ai wo.length ci ∧ IAt W Ai wo.length ci wo) → wo.length ≤ 2000 → vs.length ≤ 1 → W.ownsRow (w.heap.size + 1) 40 1 (.slice A1 (fl + vs.length) c1) (fl + vs.length) (fs.map (valS DI) ++ vs) → LsAt W A1 (fl + vs.length) c1 (fs.map (idsP (pstX X) n1) ++ vs.map (fun _ => wo)) := fun W A1 c1 wo vs hW hvs hwl hv1 hrow => by
          refine lsAt_of hrow (by simp) (by simp [hfl]) (fun j v l hv hl => ?_)
          rcases Nat.lt_or_ge j fs.length with hj | hj
          · rw [List.getElem?_append_left (by simpa using hj)] at hv hl
            simp only [List.getElem?_map, Option.map_eq_some_iff] at hv hl
            obtain ⟨s, hs, rfl⟩ := hv
            obtain ⟨s', hs', rfl⟩ := hl
            obtain rfl : s = s' := by rw [hs] at hs'; injection hs'
            obtain ⟨F1, r, hcl⟩ := (HIv.out W hW).2.2 s
            obtain ⟨k1, cx, k2, k3⟩ := hcl.val (HFS.out.2.1 s (List.mem_of_getElem? hs))
            obtain ⟨Ai, ci, e, hI⟩ := NewI.at k3
            refine ⟨by have := idsP_len (pstX X) n1 s; unfold maxLen; omega, Ai, ci, ?_, hI⟩
            rw [k2]; exact e
          · rw [List.getElem?_append_right (by simpa using hj)] at hv hl
            simp only [List.getElem?_map, Option.map_eq_some_iff] at hl
            obtain ⟨_, _, rfl⟩ := hl
            obtain ⟨Ai, ci, e, hI⟩ := hvs v (List.mem_of_getElem? hv)
            exact ⟨by unfold maxLen; omega, Ai, ci, e, hI⟩
        have HLS := Lib.hid hls
        have hlen : allLen (fs.map (idsP (pstX X) n1)) ≤ 1600 := Nat.le_trans (allLen_ids _ _ HFS.out.1) hpl
        have hU : ∀ l ∈ fs.map (idsP (pstX X) n1), Up l := fun l hl => by obtain ⟨s, _, rfl⟩ := List.mem_map.1 hl; exact HX.out.good.up n1 s
        have HU := Lib.hid (And.intro hlen hU)
        have HFL := Lib.hid hfl
        clear hls hlen hU hq0
        rw [hfl] at HO ⊢
        cases O0 with
        | false =>
          go_wp2_with (first
            | (go_at_call 63; refine (c1.out wr none 0 0 [] hb (by omega) (LAt.nil _ _) (by simp)).mono ?_; rintro e w2 ⟨rfl, hb2⟩; rw [HO0.out]; dsimp only))
          have hb3 := below2 hb hb2 hb.size
          have hl2 := HLS.out w2 A1 cap1 [] [] hb3 (by simp) (by simp) (by simp) (by simpa using (Keeps.below (F := []) hb2).row HO.out (by simp))
          have cu := union_c fl (fs.map (idsP (pstX X) n1)) A1 fl cap1 w2 (by simpa using HFL.out) (by omega) (by simpa using hl2) HU.out.2 (by have := HU.out.1; omega)
          refine cu.mono ?_
          rintro e w4 ⟨⟨u, A4, c4, rfl, hR4, hU4⟩, hb4⟩
          have hu := HF.out fs HFS.out.2.2.1 (noneW X n1) (fun x => mem_noneW x) u (by rw [HO0.out]; simpa using hU4)
          subst hu
          have HR4 := Lib.hid hR4
          clear hl2 cu hR4 hU4
          go_wp2_with fail
          go_ret
          exact ⟨⟨A4, c4, rfl, HR4.out⟩, below2 hb3 hb4 hb3.size⟩
        | true =>
          go_wp2_with (first
            | (go_at_call 63; refine (c1.out wr none 0 0 [] hb (by omega) (LAt.nil _ _) (by simp)).mono ?_; rintro e w2 ⟨rfl, hb2⟩; rw [HO0.out]; have hq2 := HD.out w2 (hbb.trans (hb2.mono (by have := hbb.size; have := hb.size; omega))); have y1 := blk_cell hq2 1; simp only [List.getElem?_toArray, List.getElem?_cons_succ, List.getElem?_cons_zero] at y1; have hb3 := below2 hb hb2 hb.size; clear hq2; dsimp only)
            | (go_at_call 64; refine (cw.out w2 hb3).mono ?_; rintro e w3 ⟨⟨wo, Aw, cx, rfl, hNw, hw1, hw2, hw3⟩, hb4⟩; have HW := Lib.hid (And.intro hNw (And.intro hw1 (And.intro hw2 hw3))); have HO3 := Lib.hid ((Keeps.below (F := []) hb4).row ((Keeps.below (F := []) hb2).row HO.out (by simp)) (by simp)); have hb5 := below2 hb3 hb4 hb3.size; have hs5 := hb5.size; have hs6 : w.heap.size + 1 ≤ w3.heap.size := Nat.le_trans hs1w (Nat.le_trans hb2.size hb4.size); clear hNw hw1 hw2 hw3; dsimp only)
            | (at_builtin; refine wpList_append_own_at _ rfl _ _ 107 rfl (w.heap.size + 1) 40 i0 (.slice none 0 0) 1 24 Tryd.underlying107 hi0 hz0 hz1 hz2 rfl (by decide) (.slice A1 fl cap1) fl (fs.map (valS DI)) rfl (HO3.out.alloc _) ⟨w3.heap.size, 0, none⟩ 1 1 [.slice Aw wo.length cx] rfl rfl (cell_one_new _ _ _) (by intro u hu; simp at hu; subst hu; rfl) (by unfold maxLen; omega) (by omega) (by simp; omega) ?_; intro v4 w4 hown4 hg4 _ _; have hg4 : (w3.alloc (.cells #[.slice Aw wo.length cx] 40)).grownBy w4 (Value.slice A1 fl cap1).ownBlock := hg4; obtain ⟨A4, c4, rfl⟩ := row_slice hown4; have hb6 : Below w.heap.size w w4 := (hb5.alloc hs5 _).grown hg4 (by simp; omega) (fun k hk => by have := (HO3.out.lt k hk).1; omega); have hb7 : Below w3.heap.size w3 w4 ∨ True := .inr trivial; have HK6 := Lib.hid (((Keeps.refl (Value.slice A1 fl cap1).ownBlock.toList w3).alloc (.cells #[.slice Aw wo.length cx] 40)).grown hg4 (fun k hk => by left; simp [hk])); have HO4 := Lib.hid hown4; clear hown4 hg4))
          have hN4 := HW.out.1.keeps HK6.out (fun k hk hm => by
            simp only [Option.mem_toList] at hm
            obtain ⟨cs, hcs⟩ := row_block HO3.out hm
            exact row_apart HW.out.1.own hcs (by decide) k hk rfl)
          obtain ⟨Ai, ci, eI, hI4⟩ := NewI.at hN4
          have hl4 := HLS.out w4 A4 c4 wo [.slice Aw wo.length cx] hb6 (fun v hv => by simp at hv; subst hv; exact ⟨Ai, ci, eI, hI4⟩) HW.out.2.2.2 (by simp) HO4.out
          have cu := union_c (fl + 1) (fs.map (idsP (pstX X) n1) ++ [wo]) A4 (fl + 1) c4 w4 (by simpa using HFL.out) (by omega) hl4 (fun l hl => by
            rcases List.mem_append.1 hl with hl | hl
            · exact HU.out.2 l hl
            · simp at hl; subst hl; exact HW.out.2.2.1) (by
              rw [allLen_append]
              have h1 := HU.out.1
              have h2 : allLen [wo] = wo.length := by simp [allLen]
              have h3 := HW.out.2.2.2
              omega)
          refine cu.mono ?_
          rintro e w5 ⟨⟨u, A5, c5, rfl, hR5, hU5⟩, hb8⟩
          have hu := HF.out fs HFS.out.2.2.1 wo HW.out.2.1 u (by rw [HO0.out]; simpa using hU5)
          subst hu
          have HR5 := Lib.hid hR5
          clear hl4 cu hR5 hU5 hN4 hI4 eI
          go_wp2_with fail
          go_ret
          exact ⟨⟨A5, c5, rfl, HR5.out⟩, below2 hb6 hb8 hb6.size⟩
      case refine_2 =>
        intro s c w' cnt' hsl hlf hgs hrg hlt hgr hsz hen
        have hbn : Below w.heap.size w w' := hb.grown hgr hbs (fun k hk => by simp at hk; omega)
        have hbbn : Below (w.heap.size + 1) W0 w' := hbb.grown hgr (by have := World.ranges.lt HR.out.1; omega) (fun k hk => by simp at hk; omega)
        have hrl : w.heap.size + 1 < w'.heap.size := World.ranges.lt hrg
        have hOn : w'.ownsRow (w.heap.size + 1) 40 1 (.slice A1 (ss.filter P1).length cap1) (ss.filter P1).length ((ss.filter P1).map (valS DI)) := ((Keeps.refl [w.heap.size + 1] wr).grown hgr (fun k hk => by left; simp at hk; simp [hk])).row HO.out (fun k hk hm => by
          simp at hm
          subst hm
          obtain ⟨cs, hcs⟩ := row_block HO.out hk
          obtain ⟨_, _, _, _, _, _, _, _, _, hr, _⟩ := HR.out.1
          rw [hcs] at hr
          injection hr with hr; cases hr)
        obtain ⟨Av, nv, cv, rfl⟩ := HI.out.slices s c hgs
        have hval : valS DI s = .slice Av nv cv := by unfold valS; rw [hgs]; rfl
        have hs32 : s.length ≤ 32 := by
          obtain ⟨F1, r, hcl⟩ := HI.out.2.2 s
          exact key_short HX.out.good (hcl.some.1 (by rw [hgs]; rfl))
        have hC2 := HR.out.2.1.step hlf hgs
        have hcnt := HR.out.2.2
        have hmeas := hrg.left_eq
        have hmeas0 := HR.out.1.left_eq
        have hp1 : P1 s = oneL (k1, n1, v1, s1) [(n1, s)] := by rw [HP1.out]
        have hq0 := HD.out w' hbbn
        have x0 := blk_cell hq0 0
        have x1 := blk_cell hq0 1
        have x2 := blk_cell hq0 2
        have x3 := blk_cell hq0 3
        simp only [List.getElem?_toArray, List.getElem?_cons_succ, List.getElem?_cons_zero] at x0 x1 x2 x3
        have hfil := filter_snoc P1 ss s
        have hfl : (ss.filter P1).length ≤ 3200 := by
          have h1 := List.length_filter_le P1 ss
          have h3 := HI.out.2.1
          omega
        obtain ⟨fs, hfs⟩ : ∃ x, ss.filter P1 = x := ⟨_, rfl⟩
        rw [hfs] at hfil hOn hfl ⊢
        obtain ⟨fl, hfl2⟩ : ∃ n, fs.length = n := ⟨_, rfl⟩
        rw [hfl2] at hOn hfl ⊢
        have hlab := lat_one w' n1 s (by omega) (by omega)
        have hbl : Below w.heap.size w (w'.alloc (.cells #[.string (str n1), .string (str s)] 60)) := hbn.alloc hbn.size _
        have hbl2 : Below w'.heap.size w' (w'.alloc (.cells #[.string (str n1), .string (str s)] 60)) := (Below.refl _ _).alloc (Nat.le_refl _) _
        have co := Lib.hid (c1.out _ _ 1 1 [(n1, s)] hbl (by omega) hlab (fun x hx => by simp at hx; subst hx; exact ⟨by simp; omega, by simp; omega⟩))
        have HN := Lib.hid (And.intro hOn (And.intro hrg (And.intro hC2 (And.intro hcnt (And.intro hmeas (And.intro hmeas0 (And.intro hp1 (And.intro hfil (And.intro hbn (And.intro hbbn (And.intro hfs (And.intro hfl2 hval))))))))))))
        have hsl' : ss.length + 1 + cnt' ≤ Maps.size DI := by omega
        clear hsz hgr hbn hbbn hOn hgs hval hC2 hcnt hmeas hmeas0 hp1 hq0 hfil hfs hfl2 hlab hbl hrg hlf hsl HO HR hb hbb hbs
        obtain ⟨pb, hpb⟩ : ∃ b, P1 s = b := ⟨_, rfl⟩
        have HPB := Lib.hid hpb
        clear hpb
        cases pb with
        | false =>
          go_wp2_with (first
            | (go_at_call 63; refine co.out.mono ?_; rintro e w2 ⟨rfl, hb2⟩; rw [← HN.out.2.2.2.2.2.2.1, HPB.out]; have hb3 := hbl2.trans (hb2.mono hbl2.size); clear hb2; dsimp only))
          go_roundw
          case rel =>
            obtain ⟨e1, e2, e3, e4, e5, e6, e7, e8, e9, e10, e11, e12, e13⟩ := HN.out
            rw [HPB.out] at e8
            simp only [Bool.false_eq_true, if_false] at e8
            refine ⟨_, cnt', ss ++ [s], A1, cap1, by rw [e8, e12], ⟨e2.of_walks (walks_below hb3), e3, by simp; omega⟩, ?_, below2 e9 hb3 e9.size, e10.trans (hb3.mono (by omega))⟩
            rw [e8, e12]
            exact (Keeps.below (F := []) hb3).row e1 (by simp)
          case measure =>
            obtain ⟨e1, e2, e3, e4, e5, e6, e7, e8, e9, e10, e11, e12, e13⟩ := HN.out
            rw [(e2.of_walks (walks_below hb3)).left_eq, e6]; exact hlt
        | true =>
          go_wp2_with (first
            | (go_at_call 63; refine co.out.mono ?_; rintro e w2 ⟨rfl, hb2⟩; rw [← HN.out.2.2.2.2.2.2.1, HPB.out]; have hb3 := hbl2.trans (hb2.mono hbl2.size); have HO2 := Lib.hid ((Keeps.below (F := []) hb3).row HN.out.1 (by simp)); have hs2 : w.heap.size + 1 < w2.heap.size := Nat.lt_of_lt_of_le hrl hb3.size; clear hb2; dsimp only)
            | (at_builtin; refine wpList_append_own_at _ rfl _ _ 107 rfl (w.heap.size + 1) 40 i0 (.slice none 0 0) 1 24 Tryd.underlying107 hi0 hz0 hz1 hz2 rfl (by decide) (.slice A1 fl cap1) fl (fs.map (valS DI)) rfl (HO2.out.alloc _) ⟨w2.heap.size, 0, none⟩ 1 1 [.slice Av nv cv] rfl rfl (cell_one_new _ _ _) (by intro u hu; simp at hu; subst hu; rfl) (by unfold maxLen; omega) (by omega) (by simp; omega) ?_; intro v4 w4 hown4 hg4 _ _; have hg4 : (w2.alloc (.cells #[.slice Av nv cv] 40)).grownBy w4 (Value.slice A1 fl cap1).ownBlock := hg4; obtain ⟨A4, c4, rfl⟩ := row_slice hown4; have hb4 : Below (w.heap.size + 1) w2 w4 := (((Below.refl _ w2).alloc (by omega) _).grown hg4 (by simp; omega) (fun k hk => (HO2.out.lt k hk).1)); have HWK := Lib.hid (KeepsWalks.trans (walks_below ((Below.refl _ w2).alloc (Nat.le_refl _) (.cells #[.slice Av nv cv] 40))) (KeepsWalks.of_grownBy hg4 (fun j o hj ho => by obtain ⟨cs, hcs⟩ := row_block (HO2.out.alloc (.cells #[.slice Av nv cv] 40)) hj; rw [hcs] at ho; injection ho with ho; subst ho; rfl))); have HO4 := Lib.hid hown4; clear hown4 hg4))
          go_roundw
          case rel =>
            obtain ⟨e1, e2, e3, e4, e5, e6, e7, e8, e9, e10, e11, e12, e13⟩ := HN.out
            rw [HPB.out] at e8
            simp only [if_true] at e8
            have el : (fs ++ [s]).length = fl + 1 := by simp [e12]
            refine ⟨_, cnt', ss ++ [s], A4, c4, by rw [e8, el], ⟨(e2.of_walks (walks_below hb3)).of_walks HWK.out, e3, by simp; omega⟩, ?_, (below2 e9 hb3 e9.size).trans (hb4.mono (by omega)), (e10.trans (hb3.mono (by omega))).trans hb4⟩
            rw [e8, el, List.map_append]
            rw [show [s].map (valS DI) = [.slice Av nv cv] by simp [e13]]
            exact HO4.out
          case measure =>
            obtain ⟨e1, e2, e3, e4, e5, e6, e7, e8, e9, e10, e11, e12, e13⟩ := HN.out
            rw [((e2.of_walks (walks_below hb3)).of_walks HWK.out).left_eq, e6]; exact hlt
end Go.Proofs.YtdbifbgjbfnfmaaDoor
/-
  Layer 7 (index): the program's Select.
-/
namespace Go.Proofs.YtdbifbgjbfnfmaaDoor
open Go.RowKit Go.Deep
attribute [local go_sem] str_size str_append str_toList str_get str_extract
set_option linter.unusedVariables false
set_option linter.unusedSimpArgs false
theorem selN_nil (X : Ix) : selN X [] X.length = allI X.length := by
  unfold selN allI
  congr 1
  rw [List.filter_eq_self]
  intro a _
  simp [meant, allL]
theorem selN_and (X : Ix) (ms : List Mat) (m : Mat) : mergeL fAnd (selN X ms X.length) (meantM X m) = selN X (ms ++ [m]) X.length := by
  unfold meantM
  refine up_ext (up_merge _ _ _ (selN_up X ms X.length) (selN_up X [m] X.length)) (selN_up X _ X.length) fun x => ?_
  rw [mem_and (selN_up X ms X.length) (selN_up X [m] X.length)]
  simp only [selN_mem]
  constructor
  · rintro ⟨⟨i, h1, rfl, h2⟩, j, h3, e, h4⟩
    obtain rfl : i = j := by omega
    refine ⟨i, h1, rfl, ?_⟩
    simp only [meant, allL, List.all_append, Bool.and_eq_true] at h2 h4 ⊢
    exact ⟨h2, h4⟩
  · rintro ⟨i, h1, rfl, h2⟩
    simp only [meant, allL, List.all_append, Bool.and_eq_true] at h2
    exact ⟨⟨i, h1, rfl, by simpa [meant, allL] using h2.1⟩, i, h1, rfl, by simpa [meant, allL] using h2.2⟩
set_option maxRecDepth 100000 in
set_option maxHeartbeats 2000000 in
theorem ixSelect_c (F : List Nat) (q : Nat) (X : Ix) (A : Option Addr) (len cap : Nat) (ms : List Mat) (w : World) (h : IsX F q X w) (hA : MsAt w A len ms) (hm : SmallMs ms) (hE : Env w) :
    Calls Tryd.prog 21 #[.pointer (some ⟨q, 0, none⟩), .slice A len cap] w fun e w' => GivesI (selX X ms) (eM (chkAll ms)) e w' ∧ Below w.heap.size w w' := by
  have hle := hA.1
  subst hle
  have h20 := hm.1
  have CK := Lib.hid (fun m A cap W (hW : Below w.heap.size w W) (hm : SmallM m) hS => mcheck_c m A cap W (smallM_of hm) hS (Utf8Tabs_below hE.tabs hW))
  have CA := Lib.hid (fun W (hW : Below w.heap.size w W) => ixAll_c F q X W (h.below hW))
  have CM := Lib.hid (fun W m S sc (hW : Below w.heap.size w W) (hm : SmallM m) hS => ixMeant_c F q X m S sc W (h.below hW) hm hS)
  have hX := h.good.few
  obtain ⟨R, hR⟩ : ∃ R, selX X ms = R := ⟨_, rfl⟩
  obtain ⟨E, hE2⟩ : ∃ R, eM (chkAll ms) = R := ⟨_, rfl⟩
  rw [hR, hE2]
  have HRE := Lib.hid (And.intro hR hE2)
  have HM := Lib.hid hm
  clear hR hE2 hm h hE
  go_enter Tryd.func21, Tryd.ntmps21
  go_wp2_with fail
  go_loopw [14] (fun c wr => ∃ i : Nat, i ≤ ms.length ∧ c = .int .i64 i ∧ Hid (∀ m ∈ ms.take i, chkL m = true) ∧ Below w.heap.size w wr) (fun c _ => ms.length - (intOf c).toNat)
  case atStart => exact ⟨0, Nat.zero_le _, rfl, by show ∀ _, _; simp, Below.refl _ _⟩
  case round =>
    obtain ⟨i, hi, rfl, HK, hb⟩ := hrel
    have hbs := hb.size
    by_cases hlt : i < ms.length
    · obtain ⟨⟨r1, r2, r3, r4, r5⟩, ad, rfl, k2, k3, k4, k5, S, c5, k6, k7⟩ := (hA.below hb).2 i hlt
      have hnx := fun h1 h2 => mem_take_next (P := fun m => chkL m = true) hlt h1 h2
      have hs := HM.out.2 _ (List.getElem_mem hlt)
      have hmem : ms[i] ∈ ms := List.getElem_mem hlt
      obtain ⟨m, hm⟩ : ∃ m, ms[i]'hlt = m := ⟨_, rfl⟩
      rw [hm] at r1 r2 r3 r4 r5 k3 k4 k5 k6 k7 hnx hs hmem
      have hba : Below wr.heap.size wr (wr.alloc (.cells #[.int .i64 m.1, .string (str m.2.1), .string (str m.2.2.1), .slice S m.2.2.2.length c5] 47)) := (Below.refl _ _).alloc (Nat.le_refl _) _
      have hbw := hb.alloc hbs (.cells #[.int .i64 m.1, .string (str m.2.1), .string (str m.2.2.1), .slice S m.2.2.2.length c5] 47)
      have ck := CK.out m S c5 _ hbw hs (k7.below hba)
      cases hcm : chkL m with
      | true =>
        rw [hcm] at ck
        have CKh := Lib.hid ck
        have HX := Lib.hid (hnx HK.out hcm)
        clear ck hnx hm hs k7 hcm hmem
        go_wp2_with fail
        refine CKh.out.mono ?_
        rintro e w1 ⟨rfl, hb1⟩
        have hb1 := below2 hb (hba.trans (hb1.mono hba.size)) hbs
        go_wp2_with fail
        go_roundw
        case rel => exact ⟨i + 1, by omega, by go_num, HX.out, hb1⟩
        case measure => simp [intOf]; omega
      | false =>
        rw [hcm] at ck
        have CKh := Lib.hid ck
        have hf : chkAll ms = false := by
          unfold chkAll
          rw [Bool.eq_false_iff]
          intro ht
          rw [List.all_eq_true] at ht
          have := ht m hmem
          rw [hcm] at this
          cases this
        have e1 : R = [] := by rw [← HRE.out.1]; unfold selX; rw [hf]; rfl
        have e2 : E = 50 := by rw [← HRE.out.2, hf]; rfl
        have HE := Lib.hid (And.intro e1 e2)
        clear ck hnx hm hs k7 hcm hmem hf e1 e2
        go_wp2_with fail
        refine CKh.out.mono ?_
        rintro e w1 ⟨rfl, hb1⟩
        have hb1 := below2 hb (hba.trans (hb1.mono hba.size)) hbs
        go_wp2_with fail
        go_ret2
        exact ⟨⟨none, 0, by rw [HE.out.1, HE.out.2]; rfl, by rw [HE.out.1]; exact NewI.nil _ _⟩, hb1⟩
    · obtain rfl : i = ms.length := by omega
      have hall : chkAll ms = true := by
        unfold chkAll
        rw [List.all_eq_true]
        have := HK.out
        rwa [List.take_length] at this
      have e1 : selN X ms X.length = R := by rw [← HRE.out.1]; unfold selX; rw [if_pos hall]
      have e2 : E = 0 := by rw [← HRE.out.2, hall]; rfl
      have HE := Lib.hid (And.intro e1 e2)
      clear hall e1 e2
      go_wp2_with (first
        | (go_at_call 37; refine (CA.out wr hb).mono ?_; rintro e w1 ⟨⟨A1, c1, rfl, hN1⟩, hb1⟩; have HN1 := Lib.hid hN1; clear hN1; have hbo := below2 hb hb1 hbs; dsimp only))
      obtain ⟨wo, rfl⟩ : ∃ wo : World, wo = w1 := ⟨_, rfl⟩
      clear hb hb1 hbs HK
      go_loopw [9, 28] (fun v c wr => ∃ (i : Nat) (out : List Int) (A1 : Option Addr) (cap1 : Nat), i ≤ ms.length ∧ c = .int .i64 i ∧ v = .slice A1 out.length cap1 ∧ NewI 0 (.slice A1 out.length cap1) out wr ∧ Hid (out = selN X (ms.take i) X.length) ∧ Below w.heap.size w wr) (fun _ c _ => ms.length - (intOf c).toNat)
      case atStart =>
        have e0 := allI_len X.length
        exact ⟨0, allI X.length, A1, c1, Nat.zero_le _, rfl, by rw [e0], by rw [e0]; exact HN1.out, by show _ = _; rw [List.take_zero, selN_nil], hbo⟩
      case round =>
        clear hbo HN1
        obtain ⟨i, out, A2, cap1, hi, rfl, rfl, hN, HO, hb⟩ := hrel
        have hbs := hb.size
        by_cases hlt : i < ms.length
        · obtain ⟨⟨r1, r2, r3, r4, r5⟩, ad, rfl, k2, k3, k4, k5, S, c5, k6, k7⟩ := (hA.below hb).2 i hlt
          have hs := HM.out.2 _ (List.getElem_mem hlt)
          have hst : selN X (ms.take (i + 1)) X.length = mergeL fAnd out (meantM X ms[i]) := by rw [HO.out, selN_and, List.take_succ_eq_append_getElem hlt]
          have hol : out.length ≤ 200 := by rw [HO.out]; have := selN_len X (ms.take i) X.length; omega
          obtain ⟨m, hm⟩ : ∃ m, ms[i]'hlt = m := ⟨_, rfl⟩
          rw [hm] at r1 r2 r3 r4 r5 k3 k4 k5 k6 k7 hs hst
          have hba : Below wr.heap.size wr (wr.alloc (.cells #[.int .i64 m.1, .string (str m.2.1), .string (str m.2.2.1), .slice S m.2.2.2.length c5] 47)) := (Below.refl _ _).alloc (Nat.le_refl _) _
          have hbw := hb.alloc hbs (.cells #[.int .i64 m.1, .string (str m.2.1), .string (str m.2.2.1), .slice S m.2.2.2.length c5] 47)
          have cm := Lib.hid (CM.out _ m S c5 hbw hs (k7.below hba))
          have hml : (meantM X m).length ≤ 200 := by have := selN_len X [m] X.length; unfold meantM; omega
          obtain ⟨T, hT⟩ : ∃ T, meantM X m = T := ⟨_, rfl⟩
          rw [hT] at cm hst hml
          have HN := Lib.hid hN
          have HS := Lib.hid hst
          clear hst hm k7 hs hN hT
          go_wp2_with (first
            | (go_at_call 39; refine cm.out.mono ?_; rintro e w2 ⟨⟨A3, c3, rfl, hN3⟩, hb2⟩; have hb3 := hba.trans (hb2.mono hba.size); have can := Lib.hid (and_u (w := w2) (R := mergeL fAnd out T) rfl (by omega) (by omega) (HN.out.below hb3) hN3); clear hN3 hb2; dsimp only)
            | (go_at_call 38; refine can.out.mono ?_; rintro e w4 ⟨⟨A5, c5', rfl, hN5⟩, hb5⟩; have HN5 := Lib.hid hN5; have hb6 := below2 hb (hb3.trans (hb5.mono hb3.size)) hbs; clear hN5; dsimp only))
          go_roundw
          case rel => exact ⟨i + 1, _, A5, c5', by omega, by go_num, rfl, HN5.out, HS.out.symm, hb6⟩
          case measure => simp [intOf]; omega
        · obtain rfl : i = ms.length := by omega
          have HN := Lib.hid hN
          have ho : out = R := by have := HO.out; rw [List.take_length] at this; rw [this]; exact HE.out.1
          subst ho
          clear hN
          go_wp2_with fail
          go_ret2
          exact ⟨⟨A2, cap1, by rw [HE.out.2]; rfl, HN.out⟩, hb⟩
end Go.Proofs.YtdbifbgjbfnfmaaDoor
/-
  Layer 7 (index): the program's Names and Values.
-/
namespace Go.Proofs.YtdbifbgjbfnfmaaDoor
open Go.RowKit Go.Deep
attribute [local go_sem] str_size str_append str_toList str_get str_extract
set_option linter.unusedVariables false
set_option linter.unusedSimpArgs false
/-- What a call that gives texts answers. -/
def GivesT (R : List Txt) (e : Ending) (w' : World) : Prop := ∃ A1 c1, e = .returned (.slice A1 R.length c1) ∧ TRow w' A1 c1 R
end Go.Proofs.YtdbifbgjbfnfmaaDoor
