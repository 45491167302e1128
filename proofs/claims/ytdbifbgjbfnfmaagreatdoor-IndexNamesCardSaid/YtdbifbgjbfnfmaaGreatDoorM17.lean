/-
  Texts of the same seat, one behind the other (merged; each says at its head what it is).
-/
import Derived.Test.YtdbifbgjbfnfmaaGreatDoorM01
import Derived.Deep.RegionHeld3
import Derived.Deep.Quiet
import Derived.RangeFuncNested
import Derived.RangeFuncCalls
import Derived.RangeFuncLeaves
import Derived.OrdersIn
import Derived.OwnWalkIn
import Derived.RangeFuncBox
import Derived.Maps.AppendAt
import Derived.Test.YtdbifbgjbfnfmaaGreatDoorM06
import Derived.Test.YtdbifbgjbfnfmaaGreatDoorM13
import Derived.Shelf.Abstract
import Derived.WalkKit
import Derived.TacticsInMore
import Derived.LoopNIn
import Derived.LoopIn
import Derived.Sort.MapsRangeIn
import Derived.Maps.OwnIn
import Derived.Test.YtdbifbgjbfnfmaaGreatDoorM07
import Derived.Test.YtdbifbgjbfnfmaaGreatDoorM08
/-
  A range over a function, as these texts use it: the iterator may keep cells of its own between two rounds; regions that draw their order in a round. Plain lemmas; they name no program.
-/
namespace Go.Proofs.YtdbifbgjbfnfmaaGreatDoor
open Go.RowKit Go.Deep
set_option linter.unusedVariables false

/-- A loop's own two blocks: its record, the rounds' deferred calls. -/
def bookObj : Obj → Bool
  | .loop _ => true
  | .deferred _ => true
  | _ => false
/-- J outlives new blocks, and whatever is done to blocks from n on that meet q. -/
def Bears {β : Type} (q : Obj → Bool) (n : Nat) (J : β → World → Prop) : Prop :=
  ∀ s A B F, J s A → Keeps F A B → (∀ k, k ∈ F → n ≤ k ∧ ∃ o : Obj, A.heap[k]? = some o ∧ q o = true) → J s B
theorem Bears.put {β : Type} {q : Obj → Bool} {n : Nat} {J : β → World → Prop} (h : Bears q n J) {s : β} {W : World} {k : Nat} {o : Obj} (o' : Obj) (hs : J s W) (hn : n ≤ k) (hk : W.heap[k]? = some o) (hq : q o = true) : J s (W.putObj k o') :=
  h s W _ [k] hs ⟨rfl, rfl, rfl, by simp, fun i hi hF => World.putObj_heap_other (by simpa using hF)⟩ (fun i hi => by
    obtain rfl : i = k := by simpa using hi
    exact ⟨hn, o, hk, hq⟩)
theorem Bears.alloc {β : Type} {q : Obj → Bool} {n : Nat} {J : β → World → Prop} (h : Bears q n J) {s : β} {W : World} (o : Obj) (hs : J s W) : J s (W.alloc o) :=
  h s W _ [] hs ((Keeps.refl [] W).alloc o) (fun i hi => by simp at hi)
/-- What a body does to a loop's two blocks: nothing. -/
def Books (B : Nat) (W W' : World) : Prop := ∀ (k : Nat) (o : Obj), B ≤ k → W.heap[k]? = some o → bookObj o = true → W'.heap[k]? = some o
theorem Books.of_keeps {B : Nat} {F : List Nat} {W W' : World} (h : Keeps F W W') (hF : ∀ k, k ∈ F → B ≤ k → ∀ o : Obj, W.heap[k]? = some o → bookObj o = false) : Books B W W' := fun k o hB hk hb => by
  refine h.block hk fun hf => ?_
  have := hF k hf hB o hk
  rw [hb] at this; cases this
theorem Books.refl (B : Nat) (W : World) : Books B W W := fun _ _ _ h _ => h
theorem Books.trans {B : Nat} {X Y Z : World} (h : Books B X Y) (k : Books B Y Z) : Books B X Z := fun i o hB hi hb => k i o hB (h i o hB hi hb) hb
theorem book_cells {w : World} {k : Nat} {cs : Array Value} {t : TypeId} {f : Nat × Nat} (h : w.heap[k]? = some (.cells cs t f)) : ∀ o : Obj, w.heap[k]? = some o → bookObj o = false := fun o ho => by
  rw [h] at ho; injection ho with ho; subst ho; rfl

/-- An iterator tells just the elements of xs, in their order, to a body that never leaves; q: which blocks it may turn between two rounds; Kp: what a round has to keep. -/
def Tells {α : Type} (F : Fence) (n : Nat) (P : Program) (g : Nat) (lb : Array Value) (encs : α → Array Value) (q : Obj → Bool) (Kp : World → World → Prop) (xs : List α) (w : World) : Prop :=
  ∀ (l : Nat) (J : List α → World → Prop) (W : World), Below w.heap.size w W → Bears q W.heap.size J →
    (∀ pre x rest W1, J pre W1 → xs = pre ++ x :: rest → YieldAt F (n - 1) P l (encs x) W1 fun e W' => e = .returned (.bool true) ∧ J (pre ++ [x]) W' ∧ Kp W1 W') → J [] W →
    CallsIn F n P g (#[.func (.yield l) #[] #[]] ++ lb) W fun e W' => (∃ v, e = .returned v) ∧ J xs W'

variable {F : Fence} {n : Nat} {P : Program}
/-- How a body that never leaves ends a round. -/
def roundEnd {α : Type} (B : Nat) (Kp : World → World → Prop) (I : List α → World → Prop) (ys : List α) (W : World) : Exit → Act → World → Prop
  | .normal, _, W' => Books B W W' ∧ Kp W W' ∧ I ys W'
  | _, _, _ => False
/-- The loop. -/
theorem loop_tells {α : Type} {g : Operand} {ps : Array Tmp} {assign body : Code} {Q : Exit → Act → World → Prop} {a : Act} {w : World} (hro : F.round = none) (h1 : 1 ≤ n)
    {gf : Nat} {lb : Array Value} (hg : a.eval g = .func (.func gf) #[] lb) (hFg : F.fn gf) (eg : ∀ args w, (callFunc gf args).run P w = .ok (.enter gf args) w)
    {encs : α → Array Value} {q : Obj → Bool} {Kp : World → World → Prop} {xs : List α} {w0 : World} (hseq : Tells F (n - 1) P gf lb encs q Kp xs w0) (hb0 : Below w0.heap.size w0 w) (hps : ∀ x, (encs x).size = ps.size)
    (hq : ∀ o, q o = true → bookObj o = false)
    (hKt : ∀ {A B C : World}, Kp A B → Kp B C → Kp A C) (hKb : ∀ (W : World) (k : Nat) (o o' : Obj), w.heap.size ≤ k → W.heap[k]? = some o → bookObj o = true → Kp W (W.putObj k o'))
    (I : List α → World → Prop) (hI : Bears (fun o => q o || bookObj o) w.heap.size I) (h0 : I [] w) (a₁ : α → Act)
    (hassign : ∀ (l : Nat) (x : α) (W : World) (K : Act → World → Prop), K (a₁ x) W →
      assign.wpIn (F.inRound l) (n - 1 - 1) P (Exit.then K (fun _ _ _ => False)) { tmps := (ps.zip (encs x)).foldl (fun t (p, v) => t.setIfInBounds p v) a.tmps, defers := [] } W)
    (hbody : ∀ (l : Nat) (pre : List α) (x : α) (rest : List α) (W : World), xs = pre ++ x :: rest → I pre W → body.wpIn (F.inRound l) (n - 1 - 1) P (roundEnd w.heap.size Kp I (pre ++ [x]) W) (a₁ x) W)
    (hdone : ∀ (D : Nat) (W : World), w.heap.size ≤ D → I xs W → W.heap[D]? = some (.deferred (some [])) → Q .normal { a with defers := { target := .collected D, args := #[] } :: a.defers } W) :
    (Code.rangeFunc g ps assign body).wpIn F n P Q a w := by
  refine wpIn_rangeFunc fun fn hfn => ?_
  rw [hro]
  have hbq : ∀ o : Obj, bookObj o = true → (q o || bookObj o) = true := fun o h => by rw [h]; simp
  generalize hD : w.heap.size = D at *
  obtain ⟨rc, hrc⟩ : ∃ rc : LoopState → Loop, rc = fun st => { state := st, pending := none, fn := fn, tmps := a.tmps, params := ps, assign := assign, body := body, defers := D } := ⟨_, rfl⟩
  have hent := run_enterLoop_outer (P := P) (w := w) fn a.tmps ps assign body
  rw [hD] at hent
  generalize hW1 : (w.alloc (.deferred (some []))).alloc (.loop { state := .ready, pending := none, fn := fn, tmps := a.tmps, params := ps, assign := assign, body := body, defers := D }) = W1 at hent
  have hk0 : W1.heap[D]? = some (.deferred (some [])) := by
    rw [← hW1, ← hD]; exact (Below.heap_alloc _ _ _ (by simp)).trans (World.alloc_heap_new w _)
  have hl0 : W1.heap[D + 1]? = some (.loop (rc .ready)) := by
    have h := World.alloc_heap_new (w.alloc (.deferred (some []))) (.loop (rc .ready))
    rw [World.size_alloc, hD, hrc] at h
    rw [← hW1, hrc]; exact h
  have hi0 : I [] W1 := by rw [← hW1]; exact hI.alloc _ (hI.alloc _ h0)
  have hb1 : Below w0.heap.size w0 W1 := by
    rw [← hW1]; exact hb0.trans ((((Below.refl _ w).alloc (Nat.le_refl _) _).alloc (by simp) _).mono hb0.size)
  have hsz : W1.heap.size = D + 2 := by rw [← hW1, ← hD]; simp
  refine ⟨D + 1, [{ target := .collected D, args := #[] }], W1, { target := .fn (.func gf) lb, args := #[.func (.yield (D + 1)) #[] #[]] }, W1, gf, #[.func (.yield (D + 1)) #[] #[]] ++ lb, W1, hent, ?_, ?_, ?_, fun _ => h1, ?_⟩
  · simp only [resolve, hg]
    simp [go_sem]
  · intro f' hf'
    simp [Target.leads] at hf'
    subst hf'
    exact hFg
  · simp [invoke, go_sem, eg]
  · have far : ∀ {A : World} {G : List Nat}, (∀ k, k ∈ G → W1.heap.size ≤ k ∧ ∃ o : Obj, A.heap[k]? = some o ∧ q o = true) → ∀ {k : Nat} {o : Obj}, A.heap[k]? = some o → bookObj o = true → k ∉ G := fun hG k o hk hb hm => by
      obtain ⟨_, o', h1, h2⟩ := hG k hm
      rw [hk] at h1; injection h1 with h1; subst h1
      rw [hq o h2] at hb; cases hb
    refine (hseq (D + 1) (fun pre W => I pre W ∧ W.heap[D + 1]? = some (.loop (rc .ready)) ∧ W.heap[D]? = some (.deferred (some []))) W1 hb1 ?_ ?_ ⟨hi0, hl0, hk0⟩).mono ?_
    · rintro s A B G ⟨hs, hl, hk⟩ hK hG
      exact ⟨hI s A B G hs hK (fun k hm => by obtain ⟨h1, o, h2, h3⟩ := hG k hm; exact ⟨by omega, o, h2, by simp [h3]⟩), hK.block hl (far hG hl rfl), hK.block hk (far hG hk rfl)⟩
    · rintro pre x rest W ⟨hs, hl, hk⟩ hx
      have hlt := lt_of_block hl
      have hy := run_yield (P := P) (args := encs x) hl (by rw [hrc]; exact hps x)
      rw [hrc] at hy
      have hbeg := run_beginRound (P := P) hl (by rw [hrc])
      refine ⟨fn, _, assign, body, hy, roundIn_of_wpIn hfn (hassign _ x W _ ⟨_, hbeg, ?_⟩)⟩
      have e1 : ({ rc .ready with state := .busy } : Loop) = rc .busy := by rw [hrc]
      rw [e1]
      have hl2 : (W.putObj (D + 1) (.loop (rc .busy))).heap[D + 1]? = some (.loop (rc .busy)) := World.putObj_heap_same hlt
      have hk2 : (W.putObj (D + 1) (.loop (rc .busy))).heap[D]? = some (.deferred (some [])) := (World.putObj_heap_other (by omega)).trans hk
      refine wpIn_mono (hbody _ pre x rest _ hx (hI.put _ hs (by omega) hl (hbq _ rfl))) ?_
      rintro e a3 W3 hp
      cases e with
      | normal =>
        obtain ⟨hbk, hkp, hi3⟩ := hp
        have hl3 := hbk _ _ (by omega) hl2 rfl
        have hk3 := hbk _ _ (Nat.le_refl _) hk2 rfl
        have hend := run_endRound (P := P) none hl3
        have e2 : ({ rc .busy with state := if (none : Option Code).isNone then .ready else .done, pending := none } : Loop) = rc .ready := by rw [hrc]; rfl
        rw [e2] at hend
        refine ⟨_, _, hend, rfl, ⟨hI.put _ hi3 (by omega) hl3 (hbq _ rfl), World.putObj_heap_same (lt_of_block hl3), (World.putObj_heap_other (by omega)).trans hk3⟩, ?_⟩
        exact hKt (hKt (hKb _ _ _ _ (by omega) hl rfl) hkp) (hKb _ _ _ _ (by omega) hl3 rfl)
      | ret => exact hp.elim
      | exit id => exact hp.elim
      | goto t => exact hp.elim
      | panic ch => exact hp.elim
      | outgrown => exact hp.elim
    · rintro e W2 ⟨⟨v, rfl⟩, hi2, hl2, hk2⟩
      have hend := run_endLoop (P := P) hl2 (by rw [hrc]; simp)
      refine ⟨none, _, by rw [hrc] at hend; exact hend, ?_⟩
      exact hdone D _ (Nat.le_refl _) (hI.put _ hi2 (by omega) hl2 (hbq _ rfl)) ((World.putObj_heap_other (by omega)).trans hk2)

/-! ### Regions that draw their order, in a round -/
/-- No operation defers. -/
def noDefer (ops : Array Oper) : Bool := ops.all fun o => match o.op with | .defer _ => false | _ => true
theorem get_lt {ops : Array Oper} {i : Nat} {o : Oper} (ho : ops[i]? = some o) : i < ops.size := (Array.getElem?_eq_some_iff.1 ho).1
theorem noDefer_at {ops : Array Oper} (h : noDefer ops = true) {i : Nat} {o : Oper} (ho : ops[i]? = some o) (c : Call) : o.op ≠ .defer c := by
  intro hc
  have h1 := Array.all_eq_true.1 h i (get_lt ho)
  have h2 : ops[i]'(get_lt ho) = o := by
    obtain ⟨h3, h4⟩ := Array.getElem?_eq_some_iff.1 ho; exact h4
  rw [h2, hc] at h1
  cases h1
/-- What is walked plainly is walked in a round, where nothing defers and nothing can outgrow. -/
theorem ops_round {ops : Array Oper} (hnd : noDefer ops = true) {Q : Exit → Act → World → Prop} (hout : ¬ LetsOut Q) (l : Nat) : ∀ (L : List Nat) (a : Act) (w : World), wpOps P ops Q L a w → wpOpsIn (Fence.wide.inRound l) n P ops Q L a w
  | [], _, _, h => h
  | i :: L, a, w, h => by
    have ih := ops_round hnd hout l L
    unfold wpOps at h
    unfold wpOpsIn
    cases ho : ops[i]? with
    | none => simp only [ho] at h ⊢; exact ih _ _ h
    | some o =>
      simp only [ho] at h ⊢
      by_cases hw : Region.wanted o (yielded ops a.tmps) = true
      · rw [if_pos hw] at h ⊢
        rcases h with h | h
        case inr => exact absurd h.2 hout
        refine ⟨fun _ _ => trivial, ?_⟩
        rw [Oper.semAt_plain _ _ _ (noDefer_at hnd ho)]
        unfold Oper.wp at h
        generalize (execOp a.eval o).run P w = r at h ⊢
        cases r with
        | halt x w' => cases x <;> exact h
        | ok x w' =>
          cases x with
          | value v => exact ih _ _ h
          | skip => exact ih _ _ h
          | defer d => exact ih _ _ h
          | enter f args =>
            refine ⟨fun h => (by simp [Fence.wide] at h), CallsIn.inRound l (callsIn_wide.2 (h.mono fun e w'' he => ?_))⟩
            cases e with
            | returned v => exact ih _ _ he
            | panicked c => exact he
            | outgrown => exact he
          | row row args => exact ⟨fun h => (by simp [Fence.wide] at h), fun c cs _ => by obtain ⟨v, w'', hr, hs⟩ := h c cs; exact ⟨v, w'', ih _ _ hr, stepsIn_wide.2 hs⟩⟩
          | round l f tmps assign body => exact h.elim
          | _ => exact h.elim
      · rw [if_neg hw] at h ⊢
        exact ⟨fun _ _ => trivial, ih _ _ h⟩
/-- A region that draws its order, in a round, out of its plain walk. -/
theorem region_round {ops : Array Oper} {Q : Exit → Act → World → Prop} {id l : Nat} {a : Act} {w : World} (hm : P.follows .mixedOrders = true) (hnd : noDefer ops = true) (hout : ¬ LetsOut Q)
    (h : wpAny P .any ops Q ops.size (Array.replicate ops.size false) a w.drew) : (Code.region id ops true).wpIn (Fence.wide.inRound l) n P Q a w :=
  wpIn_region_draw fun t => by
    simp only [Region.schedule, hm, Bool.true_or, if_true]
    exact ops_round hnd hout l _ _ _ (wpAny_sound ops.size t _ a _ h)
theorem region_round_held {ops : Array Oper} {Q : Exit → Act → World → Prop} {id l : Nat} {a : Act} {w : World} {S : World → Prop} (hm : P.follows .mixedOrders = true) (hnd : noDefer ops = true) (hout : ¬ LetsOut Q) (hS : S w.drew)
    (h : S w.drew → wpAnyH P .any ops Q S ops.size (Array.replicate ops.size false) a w.drew) : (Code.region id ops true).wpIn (Fence.wide.inRound l) n P Q a w :=
  region_round hm hnd hout (wpAny_of_held _ _ _ _ (h hS))
theorem roundEnd_out {α : Type} {B : Nat} {Kp : World → World → Prop} {I : List α → World → Prop} {ys : List α} {W : World} : ¬ LetsOut (roundEnd B Kp I ys W) := fun ⟨_, _, h⟩ => h
theorem then_out {K : Act → World → Prop} {Q : Exit → Act → World → Prop} (h : ¬ LetsOut Q) : ¬ LetsOut (Exit.then K Q) := h

/-! ### What a body spares -/
/-- All blocks of cells of another type than t, but those in F. -/
def Spares (F : List Nat) (t : TypeId) (W W' : World) : Prop := ∀ (k : Nat) (cs : Array Value) (ty : TypeId) (f : Nat × Nat), W.heap[k]? = some (.cells cs ty f) → ty ≠ t → k ∉ F → W'.heap[k]? = some (.cells cs ty f)
theorem Spares.trans {F : List Nat} {t : TypeId} {X Y Z : World} (h : Spares F t X Y) (k : Spares F t Y Z) : Spares F t X Z := fun i cs ty f hi ht hF => k i cs ty f (h i cs ty f hi ht hF) ht hF
theorem Spares.refl (F : List Nat) (t : TypeId) (W : World) : Spares F t W W := fun _ _ _ _ h _ _ => h
theorem Spares.of_keeps {F G : List Nat} {t : TypeId} {W W' : World} (h : Keeps G W W') (hG : ∀ k, k ∈ G → k ∈ F ∨ W.heap.size ≤ k ∨ ∃ cs f, W.heap[k]? = some (.cells cs t f)) : Spares F t W W' := fun k cs ty f hk ht hF => by
  refine h.block hk fun hg => ?_
  rcases hG k hg with h1 | h1 | ⟨cs', f', h1⟩
  · exact hF h1
  · have := lt_of_block hk; omega
  · rw [hk] at h1; injection h1 with h1; injection h1 with _ h1; exact ht h1
/-- What a round of a loop spares: what lay below n₀, and the others' cells. -/
def Spared (n₀ : Nat) (F : List Nat) (t : TypeId) (W W' : World) : Prop := Below n₀ W W' ∧ Spares F t W W'
theorem Spared.trans {n₀ : Nat} {F : List Nat} {t : TypeId} {X Y Z : World} (h : Spared n₀ F t X Y) (k : Spared n₀ F t Y Z) : Spared n₀ F t X Z := ⟨h.1.trans k.1, h.2.trans k.2⟩
theorem Spared.book {n₀ B : Nat} {F : List Nat} {t : TypeId} (hn : n₀ ≤ B) (W : World) (k : Nat) (o o' : Obj) (hk : B ≤ k) (h : W.heap[k]? = some o) (hb : bookObj o = true) : Spared n₀ F t W (W.putObj k o') := by
  have hK : Keeps [k] W (W.putObj k o') := ⟨rfl, rfl, rfl, by simp, fun i hi hF => World.putObj_heap_other (by simpa using hF)⟩
  refine ⟨hK.to (by have := lt_of_block h; omega) (fun f hf => by simp at hf; omega), fun i cs ty f hi _ _ => hK.block hi ?_⟩
  intro hm
  obtain rfl : i = k := by simpa using hm
  rw [hi] at h; injection h with h; subst h; cases hb

/-! ### A variable's box; 'x = append(x, ..)' -/
theorem not_book {W : World} {k m : Nat} {cs : Array Value} {t : TypeId} {f : Nat × Nat} {F : List Nat} {q : Obj → Bool} (h : W.heap[k]? = some (.cells cs t f)) (hF : ∀ k, k ∈ F → m ≤ k ∧ ∃ o : Obj, W.heap[k]? = some o ∧ q o = true) (hq : q (.cells cs t f) = false) : k ∉ F := fun hm => by
  obtain ⟨_, o, h1, h2⟩ := hF k hm
  rw [h] at h1; injection h1 with h1; subst h1
  rw [hq] at h2; cases h2
theorem row_block {W : World} {base : Nat} {e : TypeId} {size n : Nat} {v : Value} {xs : List Value} (h : W.ownsRow base e size v n xs) {k : Nat} (hk : v.ownBlock = some k) : ∃ cs, W.heap[k]? = some (.cells cs e (0, 0)) := by
  rcases h.2 with ⟨rfl, _⟩ | ⟨g, cap, cur, rfl, _, hg, _⟩
  · simp [Value.ownBlock] at hk
  · obtain rfl : g = k := by simpa [Value.ownBlock] using hk
    exact ⟨_, hg⟩
theorem box_keeps {F : List Nat} {W W' : World} {B : Nat} {t : TypeId} {v : Value} (h : Boxed W B t v) (hK : Keeps F W W') (hB : B ∉ F) : Boxed W' B t v := hK.block h hB
theorem box_below {w w' : World} {B n : Nat} {t : TypeId} {v : Value} (h : Boxed w B t v) (hb : Below n w w') (hn : w.heap.size ≤ n) : Boxed w' B t v := (hb.block B (Nat.lt_of_lt_of_le h.lt hn)).trans h
theorem box_far {W : World} {B b : Nat} {t : TypeId} {v : Value} (h : Boxed W B t v) (hne : B ≠ b) (u : Value) : Boxed (W.setCell ⟨b, 0, none⟩ u) B t v := blk_far h (p := ⟨b, 0, none⟩) hne u
theorem box_made {n : Nat} {W w : World} (h : Below n W w) (t : TypeId) (v : Value) : Boxed (w.alloc (.cells #[v] t)) w.heap.size t v := Boxed.new _ _ _
theorem mem_push {k B : Nat} {v : Value} : k ∈ B :: v.ownBlock.toList ↔ k = B ∨ v.ownBlock = some k := by
  rw [List.mem_cons]; simp
/-- Two blocks of cells of two types are two. -/
theorem ne_type {W : World} {k k' : Nat} {cs cs' : Array Value} {t t' : TypeId} {f f' : Nat × Nat} (h : W.heap[k]? = some (.cells cs t f)) (h' : W.heap[k']? = some (.cells cs' t' f')) (ht : t ≠ t') : k ≠ k' := by
  rintro rfl
  rw [h] at h'; injection h' with h'; injection h' with _ h'; exact ht h'
theorem push {W w1 : World} {n₀ B : Nat} {t e : TypeId} {v v' : Value} {k m : Nat} {xs ys : List Value} {tmp : Obj} {size : Nat} (hv : Boxed W B t v) (hte : t ≠ e) (hrow : W.ownsRow n₀ e size v k xs) (hn : n₀ ≤ W.heap.size) (hB : n₀ ≤ B)
    (hown : w1.ownsRow n₀ e size v' m ys) (hg : (W.alloc tmp).grownBy w1 v.ownBlock) :
    Boxed w1 B t v ∧ Boxed (w1.setCell ⟨B, 0, none⟩ v') B t v' ∧ (w1.setCell ⟨B, 0, none⟩ v').ownsRow n₀ e size v' m ys ∧ Keeps (B :: v.ownBlock.toList) W (w1.setCell ⟨B, 0, none⟩ v') := by
  obtain ⟨h1, h2, h3, _, _⟩ := hv.appended hte hrow hn hB hown hg
  exact ⟨h1, h2, h3, (((Keeps.refl _ W).alloc tmp).grown hg (fun k hk => .inl (by simp [hk]))).setCell (p := ⟨B, 0, none⟩) (.inl (by simp)) v'⟩
theorem listIn_app {w : World} {ops : Array Oper} {rest : List Oper} {o : Oper} {a : Act} {Q : Exit → Act → World → Prop}
    (hgd : o.guard = none) (s x : Operand) (t : TypeId) (hop : o.op = .call { callee := .builtin .append, args := #[s, x], argTypes := #[t, t] })
    (base : Nat) (e : TypeId) (i : TypeInfo) (z : Value) (size bytes : Nat) (ht : P.underlying t = some (.slice e)) (hi : P.info? e = some i) (hz : i.zero = some z)
    (hsize : i.size = size) (hby : i.bytes = bytes) (hzs : z.cells.size = size) (hsz : 0 < size)
    (v : Value) (k : Nat) (xs : List Value) (hs : a.eval s = v) (hown : w.ownsRow base e size v k xs)
    (ad : Addr) (m c : Nat) (news : List Value) (hx : a.eval x = .slice (some ad) m c) (hl : news.length = m * size) (hnews : ∀ j u, news[j]? = some u → w.cell? (ad.add j) = some u) (h1 : ∀ u ∈ news, u.oneCell' = true)
    (h63 : k + m ≤ maxLen) (hbytes : (k + m) * bytes ≤ 140737488355328) (hbase : base ≤ w.heap.size)
    (h : ∀ A cap w', w'.ownsRow base e size (.slice A (k + m) cap) (k + m) (xs ++ news) → w.grownBy w' v.ownBlock → (Value.ownBlock (.slice A (k + m) cap) = v.ownBlock ∨ Value.ownBlock (.slice A (k + m) cap) = some w.heap.size) → wpListIn F n P ops Q rest (a.put o.dst (.slice A (k + m) cap)) w') :
    wpListIn F n P ops Q (o :: rest) a w := by
  refine wpListIn_plain hgd fun K hK => ?_
  obtain ⟨v', w', hr, h2, h3, _, h5⟩ := run_append_own_at (P := P) w base t o.type e i z size bytes ht hi hz hsize hby hzs hsz v k xs hown ad m c news hl hnews h1 h63 hbytes hbase
  obtain ⟨A, cap, rfl⟩ := row_slice h2
  unfold Oper.wpIn
  refine ⟨fun f hf => ?_, ?_⟩
  · simp [Oper.about, hop, resolve, Target.leads, Sem.run_pure] at hf
  · rw [Oper.semAt_plain F _ _ (by rw [hop]; intro c hc; cases hc)]
    unfold execOp
    simp only [hop, resolve, invoke, builtin, Sem.run_bind, Sem.run_pure, Result.andThen_ok, List.map_toArray, List.map_cons, List.map_nil, hs, hx, hr]
    exact hK _ _ (h A cap w' h2 h3 h5)
end Go.Proofs.YtdbifbgjbfnfmaaGreatDoor
/-
  A range over a function whose order is not known ahead. Plain lemmas; they name no program.
-/
namespace Go.Proofs.YtdbifbgjbfnfmaaGreatDoor
open Go.RowKit Go.Deep
set_option linter.unusedVariables false

/-- An iterator tells elements one by one, in whatever order, to a body that never leaves: Pt: what may come next; S: when all have come; q: which blocks it may turn between two rounds; Kp: what a round has to keep. -/
def TellsP {α : Type} (F : Fence) (n : Nat) (P : Program) (g : Nat) (lb : Array Value) (encs : α → Array Value) (q : Obj → Bool) (Kp : World → World → Prop) (Pt : List α → α → Prop) (S : List α → Prop) (w : World) : Prop :=
  ∀ (l : Nat) (J : List α → World → Prop) (W : World), Below w.heap.size w W → Bears q W.heap.size J →
    (∀ pre x W1, J pre W1 → Pt pre x → YieldAt F (n - 1) P l (encs x) W1 fun e W' => e = .returned (.bool true) ∧ J (pre ++ [x]) W' ∧ Kp W1 W') → J [] W →
    CallsIn F n P g (#[.func (.yield l) #[] #[]] ++ lb) W fun e W' => (∃ v, e = .returned v) ∧ ∃ xs, S xs ∧ J xs W'
variable {F : Fence} {n : Nat} {P : Program}
/-- The loop. -/
theorem loop_tellsP {α : Type} {g : Operand} {ps : Array Tmp} {assign body : Code} {Q : Exit → Act → World → Prop} {a : Act} {w : World} (hro : F.round = none) (h1 : 1 ≤ n)
    {gf : Nat} {lb : Array Value} (hg : a.eval g = .func (.func gf) #[] lb) (hFg : F.fn gf) (eg : ∀ args w, (callFunc gf args).run P w = .ok (.enter gf args) w)
    {encs : α → Array Value} {q : Obj → Bool} {Kp : World → World → Prop} {Pt : List α → α → Prop} {S : List α → Prop} {w0 : World} (hseq : TellsP F (n - 1) P gf lb encs q Kp Pt S w0) (hb0 : Below w0.heap.size w0 w) (hps : ∀ x, (encs x).size = ps.size)
    (hq : ∀ o, q o = true → bookObj o = false)
    (hKt : ∀ {A B C : World}, Kp A B → Kp B C → Kp A C) (hKb : ∀ (W : World) (k : Nat) (o o' : Obj), w.heap.size ≤ k → W.heap[k]? = some o → bookObj o = true → Kp W (W.putObj k o'))
    (I : List α → World → Prop) (hI : Bears (fun o => q o || bookObj o) w.heap.size I) (h0 : I [] w) (a₁ : α → Act)
    (hassign : ∀ (l : Nat) (x : α) (W : World) (K : Act → World → Prop), K (a₁ x) W →
      assign.wpIn (F.inRound l) (n - 1 - 1) P (Exit.then K (fun _ _ _ => False)) { tmps := (ps.zip (encs x)).foldl (fun t (p, v) => t.setIfInBounds p v) a.tmps, defers := [] } W)
    (hbody : ∀ (l : Nat) (pre : List α) (x : α) (W : World), Pt pre x → I pre W → body.wpIn (F.inRound l) (n - 1 - 1) P (roundEnd w.heap.size Kp I (pre ++ [x]) W) (a₁ x) W)
    (hdone : ∀ (D : Nat) (W : World) (ys : List α), S ys → w.heap.size ≤ D → I ys W → W.heap[D]? = some (.deferred (some [])) → Q .normal { a with defers := { target := .collected D, args := #[] } :: a.defers } W) :
    (Code.rangeFunc g ps assign body).wpIn F n P Q a w := by
  refine wpIn_rangeFunc fun fn hfn => ?_
  rw [hro]
  have hbq : ∀ o : Obj, bookObj o = true → (q o || bookObj o) = true := fun o h => by rw [h]; simp
  generalize hD : w.heap.size = D at *
  obtain ⟨rc, hrc⟩ : ∃ rc : LoopState → Loop, rc = fun st => { state := st, pending := none, fn := fn, tmps := a.tmps, params := ps, assign := assign, body := body, defers := D } := ⟨_, rfl⟩
  have hent := run_enterLoop_outer (P := P) (w := w) fn a.tmps ps assign body
  rw [hD] at hent
  generalize hW1 : (w.alloc (.deferred (some []))).alloc (.loop { state := .ready, pending := none, fn := fn, tmps := a.tmps, params := ps, assign := assign, body := body, defers := D }) = W1 at hent
  have hk0 : W1.heap[D]? = some (.deferred (some [])) := by
    rw [← hW1, ← hD]; exact (Below.heap_alloc _ _ _ (by simp)).trans (World.alloc_heap_new w _)
  have hl0 : W1.heap[D + 1]? = some (.loop (rc .ready)) := by
    have h := World.alloc_heap_new (w.alloc (.deferred (some []))) (.loop (rc .ready))
    rw [World.size_alloc, hD, hrc] at h
    rw [← hW1, hrc]; exact h
  have hi0 : I [] W1 := by rw [← hW1]; exact hI.alloc _ (hI.alloc _ h0)
  have hb1 : Below w0.heap.size w0 W1 := by
    rw [← hW1]; exact hb0.trans ((((Below.refl _ w).alloc (Nat.le_refl _) _).alloc (by simp) _).mono hb0.size)
  have hsz : W1.heap.size = D + 2 := by rw [← hW1, ← hD]; simp
  refine ⟨D + 1, [{ target := .collected D, args := #[] }], W1, { target := .fn (.func gf) lb, args := #[.func (.yield (D + 1)) #[] #[]] }, W1, gf, #[.func (.yield (D + 1)) #[] #[]] ++ lb, W1, hent, ?_, ?_, ?_, fun _ => h1, ?_⟩
  · simp only [resolve, hg]
    simp [go_sem]
  · intro f' hf'
    simp [Target.leads] at hf'
    subst hf'
    exact hFg
  · simp [invoke, go_sem, eg]
  · have far : ∀ {A : World} {G : List Nat}, (∀ k, k ∈ G → W1.heap.size ≤ k ∧ ∃ o : Obj, A.heap[k]? = some o ∧ q o = true) → ∀ {k : Nat} {o : Obj}, A.heap[k]? = some o → bookObj o = true → k ∉ G := fun hG k o hk hb hm => by
      obtain ⟨_, o', h1, h2⟩ := hG k hm
      rw [hk] at h1; injection h1 with h1; subst h1
      rw [hq o h2] at hb; cases hb
    refine (hseq (D + 1) (fun pre W => I pre W ∧ W.heap[D + 1]? = some (.loop (rc .ready)) ∧ W.heap[D]? = some (.deferred (some []))) W1 hb1 ?_ ?_ ⟨hi0, hl0, hk0⟩).mono ?_
    · rintro s A B G ⟨hs, hl, hk⟩ hK hG
      exact ⟨hI s A B G hs hK (fun k hm => by obtain ⟨h1, o, h2, h3⟩ := hG k hm; exact ⟨by omega, o, h2, by simp [h3]⟩), hK.block hl (far hG hl rfl), hK.block hk (far hG hk rfl)⟩
    · rintro pre x W ⟨hs, hl, hk⟩ hx
      have hlt := lt_of_block hl
      have hy := run_yield (P := P) (args := encs x) hl (by rw [hrc]; exact hps x)
      rw [hrc] at hy
      have hbeg := run_beginRound (P := P) hl (by rw [hrc])
      refine ⟨fn, _, assign, body, hy, roundIn_of_wpIn hfn (hassign _ x W _ ⟨_, hbeg, ?_⟩)⟩
      have e1 : ({ rc .ready with state := .busy } : Loop) = rc .busy := by rw [hrc]
      rw [e1]
      have hl2 : (W.putObj (D + 1) (.loop (rc .busy))).heap[D + 1]? = some (.loop (rc .busy)) := World.putObj_heap_same hlt
      have hk2 : (W.putObj (D + 1) (.loop (rc .busy))).heap[D]? = some (.deferred (some [])) := (World.putObj_heap_other (by omega)).trans hk
      refine wpIn_mono (hbody _ pre x _ hx (hI.put _ hs (by omega) hl (hbq _ rfl))) ?_
      rintro e a3 W3 hp
      cases e with
      | normal =>
        obtain ⟨hbk, hkp, hi3⟩ := hp
        have hl3 := hbk _ _ (by omega) hl2 rfl
        have hk3 := hbk _ _ (Nat.le_refl _) hk2 rfl
        have hend := run_endRound (P := P) none hl3
        have e2 : ({ rc .busy with state := if (none : Option Code).isNone then .ready else .done, pending := none } : Loop) = rc .ready := by rw [hrc]; rfl
        rw [e2] at hend
        refine ⟨_, _, hend, rfl, ⟨hI.put _ hi3 (by omega) hl3 (hbq _ rfl), World.putObj_heap_same (lt_of_block hl3), (World.putObj_heap_other (by omega)).trans hk3⟩, ?_⟩
        exact hKt (hKt (hKb _ _ _ _ (by omega) hl rfl) hkp) (hKb _ _ _ _ (by omega) hl3 rfl)
      | ret => exact hp.elim
      | exit id => exact hp.elim
      | goto t => exact hp.elim
      | panic ch => exact hp.elim
      | outgrown => exact hp.elim
    · rintro e W2 ⟨⟨v, rfl⟩, ys, hS, hi2, hl2, hk2⟩
      have hend := run_endLoop (P := P) hl2 (by rw [hrc]; simp)
      refine ⟨none, _, by rw [hrc] at hend; exact hend, ?_⟩
      exact hdone D _ ys hS (Nat.le_refl _) (hI.put _ hi2 (by omega) hl2 (hbq _ rfl)) ((World.putObj_heap_other (by omega)).trans hk2)
end Go.Proofs.YtdbifbgjbfnfmaaGreatDoor
/-
  A region that draws its order, taken by hand, inside a fence and in a round (XHeld's way): the one call that may come up may be a loop's own yield. Plain lemmas; they name no program.
-/
namespace Go.Proofs.YtdbifbgjbfnfmaaGreatDoor
open Go.RowKit Go.Deep
set_option linter.unusedVariables false
section
variable {F : Fence} {n : Nat} {P : Program} {ops : Array Oper} {Q : Exit → Act → World → Prop} {md : Region.Mode} {S : World → Prop}
theorem wpIn_plain (hF : ∀ f, F.fn f) (hnd : noDefer ops = true) {j : Nat} {o : Oper} (ho : ops[j]? = some o) (a : Act) (w : World) (K : Act → World → Prop) :
    o.wpIn F n P a w K Q ↔ o.uponIn F n P a K Q ((execOp a.eval o).run P w) := by
  unfold Oper.wpIn
  rw [Oper.semAt_plain _ _ _ (noDefer_at hnd ho)]
  exact ⟨fun h => h.2, fun h => ⟨fun f _ => hF f, h⟩⟩
/-- Of two operations that are apart either may come first, where the one's value hangs on S alone. -/
theorem opIn_swap (hF : ∀ f, F.fn f) (hnd : noDefer ops = true) {j : Nat} {oi oj : Oper} {v : Value} (hj : ops[j]? = some oj) (hap : oi.apart ops oj = true) (hsi : ∀ cs b, oi.op ≠ .select cs b) (hsj : ∀ cs b, oj.op ≠ .select cs b)
    (hQ : ∀ c a w, Q (.panic c) (a.put oi.dst v) w → Q (.panic c) a w) {K : Act → World → Prop} {a : Act} {w : World} (hy : YieldsIf P ops S oi v a) (h : wpOpIn F n P ops Q j K (a.put oi.dst v) w) :
    wpOpIn F n P ops Q j (fun a' w' => YieldsIf P ops S oi v a' ∧ K (a'.put oi.dst v) w') a w := by
  obtain ⟨h1, h2, h3⟩ := Oper.apart_spec hap
  have stay : ∀ u, YieldsIf P ops S oi v (a.put oj.dst u) := fun u => hy.of_same (execOp_put oi hsi a oj.dst u h3) (wanted_put oi a oj.dst u h3)
  unfold wpOpIn at h ⊢
  rw [hj] at h ⊢
  simp only at h ⊢
  rw [wanted_put oj a oi.dst v h1] at h
  by_cases hw : Region.wanted oj (yielded ops a.tmps) = true
  · rw [if_pos hw] at h ⊢
    rw [wpIn_plain hF hnd hj, execOp_put oj hsj a oi.dst v h1] at h
    rw [wpIn_plain hF hnd hj]
    generalize (execOp a.eval oj).run P w = r at h ⊢
    have back : ∀ u w', K ((a.put oi.dst v).put oj.dst u) w' → YieldsIf P ops S oi v (a.put oj.dst u) ∧ K ((a.put oj.dst u).put oi.dst v) w' := fun u w' hk => ⟨stay u, by rw [← Act.put_comm a v u h2]; exact hk⟩
    cases r with
    | halt x w' => cases x <;> first | exact h.elim | exact hQ _ _ _ h
    | ok x w' =>
      cases x with
      | value u => exact back u _ h
      | skip => exact back _ _ h
      | defer d =>
        refine ⟨(hy.of_same (a' := { a with defers := d :: a.defers }) rfl rfl).of_same (execOp_put oi hsi _ oj.dst _ h3) (wanted_put oi _ oj.dst _ h3), ?_⟩
        rw [← Act.put_comm _ v undef h2, ← Act.put_defers]
        exact h
      | enter f args =>
        refine ⟨h.1, h.2.mono fun e w'' he => ?_⟩
        cases e with
        | returned u => exact back u _ he
        | panicked c => exact hQ _ _ _ he
        | outgrown => exact he
      | row row args => exact ⟨h.1, h.2.mono fun u w'' he => back u _ he⟩
      | round l f tmps assign body =>
        refine ⟨h.1, h.2.mono fun e w'' he => ?_⟩
        cases e with
        | returned u => exact back u _ he
        | panicked c => exact hQ _ _ _ he
        | outgrown => exact he
      | _ => exact h.elim
  · rw [if_neg hw] at h ⊢
    exact ⟨fun f _ => hF f, stay undef, by rw [← Act.put_comm a v undef h2]; exact h.2⟩
/-- Whatever order is picked, S holding behind each operation. -/
def anyIn (F : Fence) (n : Nat) (P : Program) (md : Region.Mode) (ops : Array Oper) (Q : Exit → Act → World → Prop) (S : World → Prop) : Nat → Array Bool → Act → World → Prop
  | 0, listed, a, w => Region.ready md ops listed = [] ∧ Q .normal a w
  | fuel + 1, listed, a, w => (Region.ready md ops listed = [] → Q .normal a w) ∧
    ∀ i, i ∈ Region.ready md ops listed → wpOpIn F n P ops Q i (fun a' w' => S w' ∧ anyIn F n P md ops Q S fuel (listed.setIfInBounds i true) a' w') a w
theorem anyIn_out : ∀ (fuel : Nat) (listed : Array Bool) (a : Act) (w : World), anyIn F n P md ops Q S fuel listed a w → wpAnyIn F n P md ops Q fuel listed a w
  | 0, _, _, _, h => h
  | fuel + 1, _, _, _, h => ⟨h.1, fun i hi => wpOpIn_mono (fun a' w' h' => anyIn_out fuel _ a' w' h'.2) (h.2 i hi)⟩
/-- An operation whose value hangs on S alone may be taken first. -/
theorem anyIn_first (hF : ∀ f, F.fn f) (hnd : noDefer ops = true) {i : Nat} {oi : Oper} {v : Value} (hi : ops[i]? = some oi) (hs : Region.noSelect ops = true) (hQ : ∀ c a w, Q (.panic c) (a.put oi.dst v) w → Q (.panic c) a w) :
    ∀ (fuel : Nat) (listed : Array Bool) (a : Act) (w : World),
      (∀ j oj, ops[j]? = some oj → j ≠ i → listed.getD j true = false → (∀ e ∈ oj.after, Region.binds md e = true → e.on ≠ i) → oi.apart ops oj = true) →
      i ∈ Region.ready md ops listed → YieldsIf P ops S oi v a → S w → anyIn F n P md ops Q S fuel (listed.setIfInBounds i true) (a.put oi.dst v) w → anyIn F n P md ops Q S (fuel + 1) listed a w
  | fuel, listed, a, w, hfree, hr, hy, hS, H => by
    have hsel := Region.noSelect_spec hs
    refine ⟨fun h => absurd hr (by rw [h]; simp), fun j hj => ?_⟩
    by_cases hji : j = i
    · subst hji
      unfold wpOpIn
      rw [hi]
      simp only
      rcases hy with ⟨hw, hv⟩ | ⟨hw, rfl⟩
      · rw [if_pos hw, wpIn_plain hF hnd hi, hv w hS]
        exact ⟨hS, H⟩
      · rw [if_neg (by rw [hw]; simp)]
        exact ⟨fun f _ => hF f, hS, H⟩
    · have hj' := ready_mono hj hji
      cases fuel with
      | zero => rw [H.1] at hj'; cases hj'
      | succ fuel =>
        obtain ⟨hjun, oj, hoj, hall⟩ := mem_ready.1 hj
        have hnot : ∀ e ∈ oj.after, Region.binds md e = true → e.on ≠ i := fun e he hb heq => by
          have h1 := hall e he hb
          have h0 := (mem_ready.1 hr).1
          rw [heq] at h1
          rcases Nat.lt_or_ge i listed.size with h' | h'
          · simp [h'] at h0 h1; rw [h0] at h1; cases h1
          · simp [Array.getElem?_eq_none h'] at h1
        refine wpOpIn_mono ?_ (opIn_swap hF hnd hoj (hfree j oj hoj hji hjun hnot) (fun cs b => hsel i oi cs b hi) (fun cs b => hsel j oj cs b hoj) hQ hy (H.2 j hj'))
        rintro a' w' ⟨h1, h2, h3⟩
        refine ⟨h2, anyIn_first hF hnd hi hs hQ fuel (listed.setIfInBounds j true) a' w' (fun k ok hk hki hun hno => ?_) (ready_mono hr (Ne.symm hji)) h1 h2 (by rw [Array.setIfInBounds_comm _ _ hji]; exact h3)⟩
        refine hfree k ok hk hki ?_ hno
        by_cases hjk : j = k
        · subst hjk; exact hjun
        · rwa [getD_set_ne true hjk] at hun
theorem heldIn_w (hF : ∀ f, F.fn f) (hnd : noDefer ops = true) {i : Nat} {d : Option Nat} {v : Value} {fuel : Nat} {listed : Array Bool} {a : Act} {w : World} (hd : (ops[i]?).map (·.dst) = some d)
    (hs : Region.noSelect ops = true) (hf : Region.free md ops listed i = true) (hr : (Region.ready md ops listed).contains i = true)
    (hQ : ∀ c a w, Q (.panic c) (a.put d v) w → Q (.panic c) a w) (hw : (ops[i]?).map (fun o => Region.wanted o (yielded ops a.tmps)) = some true)
    (hy : ∀ w', S w' → match ops[i]? with | some o => (execOp a.eval o).run P w' = .ok (.value v) w' | none => True) (hS : S w)
    (h : anyIn F n P md ops Q S fuel (listed.setIfInBounds i true) (a.put d v) w) : anyIn F n P md ops Q S (fuel + 1) listed a w := by
  cases ho : ops[i]? with
  | none => rw [ho] at hd; cases hd
  | some o =>
    rw [ho] at hd hw
    simp only [Option.map_some, Option.some.injEq] at hd hw
    subst hd
    exact anyIn_first hF hnd ho hs hQ fuel listed a w (Region.free_spec ho hf) (by simpa using hr) (.inl ⟨hw, fun w' hSw => by have := hy w' hSw; rw [ho] at this; exact this⟩) hS h
theorem heldIn_u (hF : ∀ f, F.fn f) (hnd : noDefer ops = true) {i : Nat} {d : Option Nat} {fuel : Nat} {listed : Array Bool} {a : Act} {w : World} (hd : (ops[i]?).map (·.dst) = some d)
    (hs : Region.noSelect ops = true) (hf : Region.free md ops listed i = true) (hr : (Region.ready md ops listed).contains i = true)
    (hQ : ∀ c a w, Q (.panic c) (a.put d undef) w → Q (.panic c) a w) (hw : (ops[i]?).map (fun o => Region.wanted o (yielded ops a.tmps)) = some false) (hS : S w)
    (h : anyIn F n P md ops Q S fuel (listed.setIfInBounds i true) (a.put d undef) w) : anyIn F n P md ops Q S (fuel + 1) listed a w := by
  cases ho : ops[i]? with
  | none => rw [ho] at hd; cases hd
  | some o =>
    rw [ho] at hd hw
    simp only [Option.map_some, Option.some.injEq] at hd hw
    subst hd
    exact anyIn_first hF hnd ho hs hQ fuel listed a w (Region.free_spec ho hf) (by simpa using hr) (.inr ⟨hw, rfl⟩) hS h
/-- Operation i alone may come up. -/
theorem heldIn_c (hF : ∀ f, F.fn f) (hnd : noDefer ops = true) {i : Nat} {fuel : Nat} {listed : Array Bool} {a : Act} {w : World} (hr : Region.ready md ops listed = [i]) (hw : (ops[i]?).map (fun o => Region.wanted o (yielded ops a.tmps)) = some true)
    (h : ∀ K : Act → World → Prop, Shut (∀ a w, S w → (S w → anyIn F n P md ops Q S fuel (listed.setIfInBounds i true) a w) → K a w) → match ops[i]? with | some o => o.uponIn F n P a K Q ((execOp a.eval o).run P w) | none => True) :
    anyIn F n P md ops Q S (fuel + 1) listed a w := by
  refine ⟨fun h0 => (by rw [hr] at h0; cases h0), fun j hj => ?_⟩
  rw [hr] at hj
  obtain rfl : j = i := by simpa using hj
  cases ho : ops[j]? with
  | none => rw [ho] at hw; cases hw
  | some o =>
    rw [ho] at hw h
    simp only [Option.map_some, Option.some.injEq] at hw
    unfold wpOpIn
    rw [ho]
    simp only
    rw [if_pos hw, wpIn_plain hF hnd ho]
    exact h _ (fun a w hS h => ⟨hS, h hS⟩)
theorem anyIn_gen {fuel : Nat} {listed : Array Bool} {a : Act} {w : World} (h : ∀ Wc, Wc = w → anyIn F n P md ops Q S fuel listed a Wc) : anyIn F n P md ops Q S fuel listed a w := h w rfl
def InComes (F : Fence) (n : Nat) (P : Program) (ops : Array Oper) (Q : Exit → Act → World → Prop) (md : Region.Mode) (S : World → Prop) (fuel : Nat) (listed : Array Bool) (a : Act) (w : World) : List Nat → Prop
  | [] => True
  | i :: rs => ((ops[i]?).map (fun o => Region.wanted o (yielded ops a.tmps)) = some true ∧
      ∀ K : Act → World → Prop, Shut (∀ a w, S w → (S w → anyIn F n P md ops Q S fuel (listed.setIfInBounds i true) a w) → K a w) → match ops[i]? with | some o => o.uponIn F n P a K Q ((execOp a.eval o).run P w) | none => True) ∧
    InComes F n P ops Q md S fuel listed a w rs
/-- Several may come up. -/
theorem heldIn_many (hF : ∀ f, F.fn f) (hnd : noDefer ops = true) {rs : List Nat} {fuel : Nat} {listed : Array Bool} {a : Act} {w : World} (hr : Region.ready md ops listed = rs) (hne : rs ≠ []) (h : InComes F n P ops Q md S fuel listed a w rs) :
    anyIn F n P md ops Q S (fuel + 1) listed a w := by
  refine ⟨fun h0 => absurd (hr ▸ h0) hne, fun j hj => ?_⟩
  rw [hr] at hj
  clear hr hne
  induction rs with
  | nil => cases hj
  | cons i rs ih =>
    obtain ⟨⟨hw, h1⟩, h2⟩ := h
    rcases List.mem_cons.1 hj with rfl | hj
    · cases ho : ops[j]? with
      | none => rw [ho] at hw; cases hw
      | some o =>
        rw [ho] at hw h1
        simp only [Option.map_some, Option.some.injEq] at hw
        unfold wpOpIn
        rw [ho]
        simp only
        rw [if_pos hw, wpIn_plain hF hnd ho]
        exact h1 _ (fun a w hS h => ⟨hS, h hS⟩)
    · exact ih h2 hj
theorem anyIn_done {listed : Array Bool} {a : Act} {w : World} (hr : Region.ready md ops listed = []) (h : Q .normal a w) : ∀ fuel, anyIn F n P md ops Q S fuel listed a w
  | 0 => ⟨hr, h⟩
  | _ + 1 => ⟨fun _ => h, fun i hi => by rw [hr] at hi; cases hi⟩
theorem region_heldIn {id : Nat} {a : Act} {w : World} (hm : P.follows .mixedOrders = true) (hS : S w.drew) (h : S w.drew → anyIn F n P .any ops Q S ops.size (Array.replicate ops.size false) a w.drew) : (Code.region id ops true).wpIn F n P Q a w :=
  wpIn_region_any hm (anyIn_out _ _ _ _ (h hS))
end
end Go.Proofs.YtdbifbgjbfnfmaaGreatDoor
/-
  Layer 7 (index): the values of a map of texts, collected (maps.Values, slices.Collect), at elements that are slices of integers.
-/
namespace Go.Proofs.YtdbifbgjbfnfmaaGreatDoor
open Go.RowKit Go.Deep
attribute [local go_sem] Oper.semAt_some
set_option linter.unusedVariables false
set_option linter.unusedSimpArgs false
/-- What has come of a map's keys, what is left of them. -/
def Coll (D : DataW Value) (left : Lit → Bool) (ss : List Txt) : Prop := ss.Nodup ∧ ∀ x, x ∈ ss ↔ ((getS D x).isSome = true ∧ left (.string x) = false)
theorem Coll.start (D : DataW Value) : Coll D (Maps.has D) [] := ⟨List.nodup_nil, fun x => by rw [has_getS]; cases (getS D x).isSome <;> simp⟩
theorem Coll.step {D : DataW Value} {left : Lit → Bool} {ss : List Txt} (h : Coll D left ss) {s : Txt} {c : Value} (hl : left (.string s) = true) (hc : getS D s = some c) : Coll D (fun z => left z && !z.sameKey (.string s)) (ss ++ [s]) := by
  have hns : s ∉ ss := fun hm => by have := ((h.2 s).1 hm).2; rw [hl] at this; cases this
  refine ⟨?_, fun x => ?_⟩
  · rw [List.nodup_append]
    exact ⟨h.1, by simp, fun a ha b hb e => by simp at hb; subst hb; subst e; exact hns ha⟩
  · show _ ↔ _ ∧ (left (.string x) && !(Lit.string x).sameKey (.string s)) = false
    rw [List.mem_append, h.2 x, sameS]
    by_cases e : x = s
    · subst e; simp [hc]
    · simp [e]
theorem Coll.all {D : DataW Value} {left : Lit → Bool} {ss : List Txt} (h : Coll D left ss) (hl : ∀ kl, left kl = false) : ss.Nodup ∧ ∀ x, x ∈ ss ↔ (getS D x).isSome = true := ⟨h.1, fun x => by rw [h.2 x, hl]; simp⟩
/-- .. in a fence. -/
theorem listIn_next_s {F : Fence} {n : Nat} {P : Program} (w : World) {ops : Array Oper} {rest : List Oper} {o : Oper} {a : Act} {Q : Exit → Act → World → Prop} (hg : o.guard = none) (it : Operand) (hop : o.op = Op.next it false) (k : TypeId) (hk : P.underlying k = some .string) (b r nn : Nat) (D : DataW Value) (left : Lit → Bool) (cnt : Nat)
    (hit : a.eval it = .pointer (some ⟨r, 0, none⟩)) (h : w.ranges P k anyE b r nn D left cnt)
    (hDone : cnt = 0 → (∀ kl, left kl = false) → wpListIn F n P ops Q rest (a.put o.dst (.tuple #[.bool false])) w)
    (hMore : ∀ (s : List UInt8) (c : Value) (w' : World) (cnt' : Nat), s.length ≤ maxLen → left (.string s) = true → getS D s = some c → w'.ranges P k anyE b r nn D (fun z => left z && !z.sameKey (.string s)) cnt' → cnt' < cnt →
      w.grownBy w' (some r) → w'.heap.size = w.heap.size → (Instr.entry (.pointer (some ⟨r, 0, none⟩))).run P w' = .ok (.tuple #[.string (str s), c]) w' → wpListIn F n P ops Q rest (a.put o.dst (.tuple #[.bool true, .string (str s), c])) w') :
    wpListIn F n P ops Q (o :: rest) a w :=
  wpListIn_next_ranges w hg it hop k (Maps.string_keyed hk) anyE (fun s : List UInt8 => .string (str s)) (fun c : Value => c) (fun key kl hkey => by obtain ⟨s, h1, _⟩ := keyS_inv hk hkey; exact ⟨s, h1⟩) (fun v y hv => ⟨v, rfl⟩)
    b r nn D left cnt hit h hDone (fun s c kl y w' cnt' hkey hlk hv hat hrg hlt hgr hsz hen => by
      obtain ⟨s', e, rfl, hsl⟩ := keyS_inv hk hkey
      have e' : str s = str s' := by injection e
      obtain rfl := str_inj e'
      have hy : y = (.held c, []) := (Option.some.inj hv).symm
      subst hy
      exact hMore s c w' cnt' hsl hlk (by unfold getS; rw [if_pos (Maps.has_true_of_atKey hat), hat]; rfl) hrg hlt hgr hsz hen)
/-- What may come next; when all have come. -/
def MayCome (D : DataW Value) (pre : List Txt) (x : Txt) : Prop := (getS D x).isSome = true ∧ pre.length < Maps.size D
def AllCame (D : DataW Value) (ss : List Txt) : Prop := ss.Nodup ∧ (∀ x, x ∈ ss ↔ (getS D x).isSome = true) ∧ ss.length ≤ Maps.size D
def valS (D : DataW Value) (s : Txt) : Value := (getS D s).getD undef
theorem mvalues_c (m : Option Nat) (w : World) : Calls Tryz.prog 64 #[.map m] w fun e w' =>
    e = .returned (.func (.func 89) #[] #[.pointer (some ⟨w.heap.size, 0, none⟩)]) ∧ w' = w.alloc (.cells #[.map m] 50) := by
  go_enter Tryz.func64, Tryz.ntmps64
  go_wp2_with fail
  go_ret
  exact ⟨rfl, rfl⟩
set_option maxRecDepth 100000 in
set_option maxHeartbeats 2000000 in
theorem values1_tells (n b bm nn : Nat) (hn1 : 1 ≤ n) (D : DataW Value) (w : World) (hbox : w.heap[b]? = some (.cells #[.map (some bm)] 50 (0, 0))) (hM : MapS Tryz.prog 9 w bm nn D) :
    TellsP Fence.wide n Tryz.prog 89 #[.pointer (some ⟨b, 0, none⟩)] (fun s => #[valS D s]) Obj.isWalk KeepsWalks (MayCome D) (AllCame D) w := by
  intro l J W hW hJ hY h0
  have hWb : W.heap[b]? = some (.cells #[.map (some bm)] 50 (0, 0)) := (hW.block b (lt_of_block hbox)).trans hbox
  have hMW := hM.below hW
  have hm := blk_cell hWb 0
  simp only [List.getElem?_toArray, List.getElem?_cons_zero] at hm
  refine callsIn_of_wp Tryz.func89 rfl trivial ?_ rfl
  simp only [Tryz.ntmps89, List.size_toArray, List.length_cons, List.length_nil, Nat.reduceAdd, Nat.reduceSub, Array.replicate_succ, Array.replicate_zero, List.push_toArray, List.append_toArray, List.nil_append, List.cons_append]
  gi_wp2_with (first
    | (gi_at_range; refine wpListIn_range_own _ rfl _ 50 rfl 9 32 (Maps.string_keyed Tryz.underlying9) Tryz.underlying50 anyE bm nn D rfl hMW ?_; intro w0 hrg0 hg0 hs0)
    | gi_in)
  try go_frame
  have hJ0 : J [] w0 := hJ [] W w0 [] h0 ((Keeps.refl [] W).grown hg0 (by simp)) (by simp)
  clear hg0 hs0
  gi_loopw [4] (fun _ wr => ∃ (left : Lit → Bool) (cnt : Nat) (ss : List Txt), wr.ranges Tryz.prog 9 anyE bm W.heap.size nn D left cnt ∧ ss.length + cnt ≤ Maps.size D ∧ Coll D left ss ∧ J ss wr)
    (fun _ wr => wr.rangeLeft bm W.heap.size)
  case atStart => exact ⟨_, _, [], hrg0, by simp, Coll.start D, hJ0⟩
  case round =>
    obtain ⟨left, cnt, ss, hrg, hcs, hC, hJs⟩ := hrel
    gi_wp2_with (first
      | (gi_at_next; refine listIn_next_s _ rfl _ rfl 9 Tryz.underlying9 bm W.heap.size nn D left cnt rfl hrg ?_ ?_)
      | gi_in)
    · intro hc0 hl0
      gi_wp2
      go_end0
      exact ⟨⟨_, rfl⟩, ss, ⟨(hC.all hl0).1, (hC.all hl0).2, by omega⟩, hJs⟩
    · intro s c w2 cnt2 hsl hlf hgs hrg2 hlt hg2 hs2 hen
      have hJ2 : J ss w2 := hJ ss wr w2 [W.heap.size] hJs ((Keeps.refl _ wr).grown hg2 (fun k hk => by left; simp at hk; simp [hk])) (fun k hk => by simp at hk; subst hk; exact ⟨Nat.le_refl _, hrg.iter_walk⟩)
      have hv : valS D s = c := by unfold valS; rw [hgs]; rfl
      obtain ⟨fn, tmps, assign, body, hy, hR⟩ := hY ss s w2 hJ2 ⟨by rw [hgs]; rfl, by omega⟩
      try dsimp only at hy
      rw [hv] at hy
      have hC2 := hC.step hlf hgs
      clear hs2 hv
      gi_wp2
      refine hR.mono ?_
      rintro e W3 ⟨rfl, hJ3, hk3⟩
      gi_wp2
      have hrg3 := hrg2.of_walks hk3
      go_roundw
      case rel => exact ⟨_, cnt2, ss ++ [s], hrg3, by simp; omega, hC2, hJ3⟩
      case measure => rw [hrg3.left_eq, hrg.left_eq]; exact hlt
set_option maxRecDepth 100000 in
set_option maxHeartbeats 2000000 in
/-- The same at a nil map. -/
theorem values1_nil (n b : Nat) (hn1 : 1 ≤ n) (w : World) (hbox : w.heap[b]? = some (.cells #[.map none] 50 (0, 0))) :
    TellsP Fence.wide n Tryz.prog 89 #[.pointer (some ⟨b, 0, none⟩)] (fun s => #[valS (.map []) s]) Obj.isWalk KeepsWalks (MayCome (.map [])) (AllCame (.map [])) w := by
  intro l J W hW hJ hY h0
  have hWb : W.heap[b]? = some (.cells #[.map none] 50 (0, 0)) := (hW.block b (lt_of_block hbox)).trans hbox
  have hm := blk_cell hWb 0
  simp only [List.getElem?_toArray, List.getElem?_cons_zero] at hm
  have hA : AllCame (.map []) [] := ⟨List.nodup_nil, fun x => by rw [getS_empty]; simp, by simp⟩
  refine callsIn_of_wp Tryz.func89 rfl trivial ?_ rfl
  simp only [Tryz.ntmps89, List.size_toArray, List.length_cons, List.length_nil, Nat.reduceAdd, Nat.reduceSub, Array.replicate_succ, Array.replicate_zero, List.push_toArray, List.append_toArray, List.nil_append, List.cons_append]
  have hrg := run_range_nilMap (P := Tryz.prog) W 50 9 32 Tryz.underlying50
  have hnx : ∀ ty, (Instr.next (.pointer (some ⟨W.heap.size, 0, none⟩)) false ty).run Tryz.prog (W.alloc (.mapIter none 0 #[] 0)) = _ := fun ty => run_next_nilMap _ ty 0 0 #[]
  gi_wp2
  refine wpIn_loop_rounds 1 ?_
  rw [roundsIn_succ]
  gi_wp2
  go_end0
  exact ⟨⟨_, rfl⟩, [], hA, hJ.alloc _ h0⟩
theorem lists_info : (Tryz.prog.info? 32).map (fun i => (i.zero, i.size, i.bytes)) = some (some (.slice none 0 0), 1, 24) := by kernel_rfl
set_option maxRecDepth 100000 in
set_option maxHeartbeats 2000000 in
theorem appendSeq_c (b : Nat) (D : DataW Value) (w : World) (hD : ∀ s v, getS D s = some v → ∃ A n c, v = .slice A n c) (hsz : Maps.size D ≤ 5000)
    (hseq : ∀ W, Below w.heap.size w W → TellsP Fence.wide 3 Tryz.prog 89 #[.pointer (some ⟨b, 0, none⟩)] (fun s => #[valS D s]) Obj.isWalk KeepsWalks (MayCome D) (AllCame D) W) :
    Calls Tryz.prog 88 #[.slice none 0 0, .func (.func 89) #[] #[.pointer (some ⟨b, 0, none⟩)]] w fun e w' =>
      (∃ ss A c, e = .returned (.slice A ss.length c) ∧ AllCame D ss ∧ w'.ownsRow w.heap.size 32 1 (.slice A ss.length c) ss.length (ss.map (valS D))) ∧ Below w.heap.size w w' := by
  obtain ⟨i0, hi0, hz0, hz1, hz2⟩ := info_parts lists_info
  refine (callsIn_wide (n := 4)).1 (callsIn_of_wp_marks Tryz.func88 rfl trivial ?_ rfl)
  simp only [Tryz.ntmps88, List.size_toArray, List.length_cons, List.length_nil, Nat.reduceAdd, Nat.reduceSub, Array.replicate_succ, Array.replicate_zero, List.push_toArray, List.append_toArray, List.nil_append, List.cons_append]
  refine wpIn_wide.2 ?_
  go_wp2_with fail
  have f0 := blk_new w (.cells #[.slice none 0 0] 81)
  have hb0 : Below w.heap.size w (w.alloc (.cells #[.slice none 0 0] 81)) := (Below.refl _ w).alloc (Nat.le_refl _) _
  have hs0 : (w.alloc (.cells #[.slice none 0 0] 81)).heap.size = w.heap.size + 1 := by simp
  have hq := hseq _ hb0
  generalize w.alloc (.cells #[.slice none 0 0] 81) = W0 at *
  refine wpIn_wide.1 (loop_tellsP (n := 4) rfl (by omega) (gf := 89) (lb := #[.pointer (some ⟨b, 0, none⟩)]) rfl trivial (enters_of Tryz.func89 (by kernel_rfl) rfl)
    hq (Below.refl _ _) (fun _ => rfl) (fun o h => by cases o <;> first | rfl | cases h) (fun h k => h.trans k) (fun W k o o' hk h hb => KeepsWalks.putObj _ h (by cases o <;> first | rfl | cases hb))
    (fun pre W => (∃ A cap, Boxed W w.heap.size 81 (.slice A pre.length cap) ∧ W.ownsRow w.heap.size 32 1 (.slice A pre.length cap) pre.length (pre.map (valS D))) ∧ Below w.heap.size w W) ?bears ?start
    (fun x => { tmps := #[.slice none 0 0, .func (.func 89) #[] #[.pointer (some ⟨b, 0, none⟩)], .pointer (some ⟨w.heap.size, 0, none⟩), undef, .slice none 0 0, valS D x, .func (.func 89) #[] #[.pointer (some ⟨b, 0, none⟩)], valS D x, undef, undef, undef, undef, undef], defers := [] }) ?assign ?body ?done)
  case bears =>
    rintro y X Y G ⟨⟨A, cap, b1, r1⟩, hb⟩ hK hG
    have hnr : ∀ {k : Nat} {cs : Array Value} {ty : TypeId}, X.heap[k]? = some (.cells cs ty (0, 0)) → k ∉ G := fun h => not_book h hG (by simp [Obj.isWalk, bookObj])
    refine ⟨⟨A, cap, box_keeps b1 hK (hnr b1), hK.row r1 (fun k hk => ?_)⟩, hb.trans (hK.to (by have := hb.size; omega) (fun f hf => by have := (hG f hf).1; omega))⟩
    obtain ⟨cs, hc⟩ := row_block r1 hk
    exact hnr hc
  case start => exact ⟨⟨none, 0, f0, ⟨rfl, .inl ⟨rfl, rfl⟩⟩⟩, hb0⟩
  case assign =>
    intro l x W K hK
    gi_wp2
    exact hK
  case body =>
    rintro l pre x W ⟨hx1, hx2⟩ ⟨⟨A, cap, b1, r1⟩, hb⟩
    obtain ⟨v, hv⟩ := Option.isSome_iff_exists.1 hx1
    obtain ⟨Av, nv, cv, rfl⟩ := hD x v hv
    have hval : valS D x = .slice Av nv cv := by unfold valS; rw [hv]; rfl
    have hst : (pre ++ [x]).map (valS D) = pre.map (valS D) ++ [.slice Av nv cv] := by rw [List.map_append]; simp [hval]
    have hbs := hb.size
    have hlb := b1.lt
    have c0 := b1.cell
    have g0 := b1.frozen
    have HR := Lib.hid (And.intro b1 (And.intro r1 (And.intro hb hst)))
    rw [hval]
    clear b1 r1 hb hst hx1 hv hval
    gi_wp2_with (first
      | (gi_at_builtin; refine listIn_app rfl _ _ 81 rfl w.heap.size 32 i0 (.slice none 0 0) 1 24 Tryz.underlying81 hi0 hz0 hz1 hz2 rfl (by decide) _ pre.length (pre.map (valS D)) rfl (HR.out.2.1.alloc _) ⟨W.heap.size, 0, none⟩ 1 1 [.slice Av nv cv] rfl rfl (cell_one_new _ _ _) (by intro u hu; simp at hu; subst hu; rfl) (by unfold maxLen; omega) (by omega) (by simp; omega) ?_; intro A1 cap1 w1 hown1 hg1 hl1; obtain ⟨p1, p2, p3, p4⟩ := push HR.out.1 (by decide) HR.out.2.1 hbs (Nat.le_refl _) hown1 hg1; have hc1 := p1.cell; have hf1 := p1.frozen; have HP := Lib.hid (And.intro p2 (And.intro p3 p4)); clear p1 p2 p3 p4 hown1 hg1 hl1)
      | gi_in)
    obtain ⟨p2, p3, p4⟩ := HP.out
    obtain ⟨b1, r1, hb, hst⟩ := HR.out
    refine ⟨Books.of_keeps p4 (fun k hk hB => ?_), KeepsWalks.trans (KeepsWalks.refl _) ?_, ⟨A1, cap1, by simpa using p2, by rw [hst]; simpa using p3⟩, ?_⟩
    · rcases mem_push.1 hk with rfl | h
      · exact book_cells b1
      · obtain ⟨cs, hc⟩ := row_block r1 h
        exact book_cells hc
    · refine ⟨p4.size, fun k o hk ho => p4.block hk (fun hm => ?_)⟩
      rcases mem_push.1 hm with rfl | h
      · rw [show W.heap[w.heap.size]? = _ from b1] at hk; injection hk with hk; subst hk; cases ho
      · obtain ⟨cs, hc⟩ := row_block r1 h
        rw [hc] at hk; injection hk with hk; subst hk; cases ho
    · exact hb.trans (p4.to hbs (fun f hf => by
        rcases mem_push.1 hf with rfl | h
        · exact Nat.le_refl _
        · exact (r1.lt f h).1))
  case done =>
    rintro Dd W ys hS hDd ⟨⟨A, cap, b1, r1⟩, hb⟩ hdef
    have c0 := b1.cell
    have HR := Lib.hid (And.intro b1 (And.intro r1 hb))
    have HS := Lib.hid hS
    clear b1 r1 hb hS
    go_wp2_with fail
    refine ⟨by simp, .inl ⟨_, _, rfl, run_takeDeferred hdef, ?_⟩⟩
    exact ⟨_, results_tmp rfl _ _ _, ⟨ys, A, cap, rfl, HS.out, ownsRow_putObj HR.out.2.1 _ hdef rfl⟩, HR.out.2.2.trans (belowK_b (w := w) (Nat.le_refl _) W Dd _ _ (by omega) hdef rfl rfl)⟩
theorem collect_c (b : Nat) (D : DataW Value) (w : World) (hD : ∀ s v, getS D s = some v → ∃ A n c, v = .slice A n c) (hsz : Maps.size D ≤ 5000)
    (hseq : ∀ W, Below w.heap.size w W → TellsP Fence.wide 3 Tryz.prog 89 #[.pointer (some ⟨b, 0, none⟩)] (fun s => #[valS D s]) Obj.isWalk KeepsWalks (MayCome D) (AllCame D) W) :
    Calls Tryz.prog 63 #[.func (.func 89) #[] #[.pointer (some ⟨b, 0, none⟩)]] w fun e w' =>
      (∃ ss A c, e = .returned (.slice A ss.length c) ∧ AllCame D ss ∧ w'.ownsRow w.heap.size 32 1 (.slice A ss.length c) ss.length (ss.map (valS D))) ∧ Below w.heap.size w w' := by
  have CA := Lib.hid (appendSeq_c b D w hD hsz hseq)
  clear hseq
  go_enter Tryz.func63, Tryz.ntmps63
  go_wp2_with fail
  go_at_call 88
  refine CA.out.mono ?_
  rintro e w1 ⟨⟨ss, A, c, rfl, hS, hR⟩, hb⟩
  have HR := Lib.hid (And.intro hS hR)
  clear hS hR
  go_wp2_with fail
  go_ret
  exact ⟨⟨ss, A, c, rfl, HR.out.1, HR.out.2⟩, hb⟩
/-- Collect of Values, at the map as it stands behind the call of Values. -/
theorem collected_c (m : Option Nat) (nn : Nat) (D : DataW Value) (w : World) (hm : (m = none ∧ D = .map []) ∨ ∃ bm, m = some bm ∧ MapS Tryz.prog 9 w bm nn D) (hD : ∀ s v, getS D s = some v → ∃ A n c, v = .slice A n c) (hsz : Maps.size D ≤ 5000) :
    Calls Tryz.prog 63 #[.func (.func 89) #[] #[.pointer (some ⟨w.heap.size, 0, none⟩)]] (w.alloc (.cells #[.map m] 50)) fun e w' =>
      (∃ ss A c, e = .returned (.slice A ss.length c) ∧ AllCame D ss ∧ w'.ownsRow w.heap.size 32 1 (.slice A ss.length c) ss.length (ss.map (valS D))) ∧ Below w.heap.size w w' := by
  have hb0 : Below w.heap.size w (w.alloc (.cells #[.map m] 50)) := (Below.refl _ w).alloc (Nat.le_refl _) _
  have hbx := blk_new w (.cells #[.map m] 50)
  refine (collect_c w.heap.size D _ hD hsz (fun W hW => ?_)).mono ?_
  · have hbW := (hW.block w.heap.size (lt_of_block hbx)).trans hbx
    rcases hm with ⟨rfl, rfl⟩ | ⟨bm, rfl, hM⟩
    · exact values1_nil 3 w.heap.size (by omega) W hbW
    · exact values1_tells 3 w.heap.size bm nn (by omega) D W hbW ((hM.below hb0).below hW)
  · rintro e w' ⟨⟨ss, A, c, rfl, hS, hR⟩, hb⟩
    exact ⟨⟨ss, A, c, rfl, hS, hR.mono hb0.size⟩, hb0.trans (hb.mono hb0.size)⟩
end Go.Proofs.YtdbifbgjbfnfmaaGreatDoor
/-
  Layer 5 (match): what the program's Check returns; all that was in memory stays.
-/
namespace Go.Proofs.YtdbifbgjbfnfmaaGreatDoor
open Go.RowKit Go.Deep
attribute [local go_sem] str_size str_append str_toList str_get str_extract
set_option linter.unusedVariables false
set_option linter.unusedSimpArgs false
set_option maxRecDepth 100000 in
set_option maxHeartbeats 1000000 in
theorem maySet_c (A : Option Addr) (len cap : Nat) (s : List (List UInt8)) (w : World) (hl : s.length ≤ 16384) (hA : StrsAt w A len s) (hz : ∀ x ∈ s, x.length ≤ 16384) (hT : Lib.Utf8Tabs 1 2 w) :
    Calls Tryz.prog 59 #[.slice A len cap] w fun e w' => e = .returned (.bool (setL s)) ∧ Below w.heap.size w w' := by
  have hle := hA.1
  subst hle
  by_cases h0 : s.length = 0
  · have e : setL s = false := by unfold setL; simp [h0]
    rw [e]
    have t0 : ((s.length : Int) == 0) = true := by simp [h0]
    clear h0 e
    go_enter Tryz.func59, Tryz.ntmps59
    go_wp2_with fail
    go_ret
    exact ⟨rfl, Below.refl _ _⟩
  have t0 : ((s.length : Int) == 0) = false := by rw [beq_eq_false_iff_ne]; omega
  by_cases h8 : 8 < (s.length : Int)
  · have e : setL s = false := by unfold setL; rw [show decide (s.length ≤ 8) = false by simp; omega]; simp
    rw [e]
    clear e h0
    go_enter Tryz.func59, Tryz.ntmps59
    go_wp2_with fail
    go_ret
    exact ⟨rfl, Below.refl _ _⟩
  have t8 : decide (8 < (s.length : Int)) = false := by simpa using h8
  have e : setL s = setFrom none s := by unfold setL; rw [show decide (1 ≤ s.length) = true by simp; omega, show decide (s.length ≤ 8) = true by simp; omega]; simp
  rw [e]
  obtain ⟨R, hR⟩ : ∃ R, setFrom none s = R := ⟨_, rfl⟩
  rw [hR]
  have HR := Lib.hid hR
  clear hR e h0 h8
  go_enter Tryz.func59, Tryz.ntmps59
  go_wp2_with fail
  go_loopw [15] (fun c wr => ∃ i : Nat, i ≤ s.length ∧ c = .int .i64 i ∧ Hid (setFrom (prevO s i) (s.drop i) = R) ∧ Below w.heap.size w wr) (fun c _ => s.length - (intOf c).toNat)
  case atStart => exact ⟨0, Nat.zero_le _, rfl, HR.out, Below.refl _ _⟩
  case round =>
    obtain ⟨i, hi, rfl, HI, hb⟩ := hrel
    have hsz := hb.size
    by_cases hlt : i < s.length
    · obtain ⟨-, ad, rfl, h2, h3⟩ := (hA.below hb).2 i hlt
      have hT2 := Utf8Tabs_below hT hb
      have hst := setFrom_at (o := prevO s i) hlt
      rw [HI.out] at hst
      have z1 := hz _ (List.getElem_mem hlt)
      have hnx := prevO_succ hlt
      obtain ⟨v, hv⟩ : ∃ v, s[i]'hlt = v := ⟨_, rfl⟩
      rw [hv] at hst h3 z1 hnx
      have HNX := Lib.hid hnx
      have HST := Lib.hid hst
      have c1 := fun W h => value_c v W (by omega) h
      clear hst hv hnx
      cases hV : valueL v with
      | false =>
        have e := HST.out
        rw [hV, Bool.false_and] at e
        subst e
        rw [hV] at c1
        clear hV
        go_wp2_with (go_at_call 60; refine (c1 _ hT2).mono ?_; rintro e w1 ⟨rfl, hb1⟩; dsimp only)
        go_ret
        exact ⟨rfl, below2 hb hb1 hsz⟩
      | true =>
      rw [hV] at c1
      by_cases hi0 : i = 0
      · subst hi0
        have e := HST.out
        rw [prevO_zero, hV, Bool.true_and] at e
        have e2 : R = setFrom (some v) (s.drop (0 + 1)) := e
        have HE : Hid (setFrom (prevO s (0 + 1)) (s.drop (0 + 1)) = R) := by show _ = _; rw [HNX.out, e2]
        clear hV e e2
        have ea : ad.add 0 = ad := by rcases ad with ⟨b, o, p⟩; cases p <;> rfl
        rw [ea] at h2 h3
        go_wp2_with (go_at_call 60; refine (c1 _ hT2).mono ?_; rintro e w1 ⟨rfl, hb1⟩; dsimp only)
        go_roundw
        case rel => exact ⟨1, by omega, by go_num, HE.out, below2 hb hb1 hsz⟩
        case measure => simp [intOf]; omega
      · obtain ⟨j, rfl⟩ : ∃ j, i = j + 1 := ⟨i - 1, by omega⟩
        have ea : ad.add (j + 1) = ⟨ad.block, ad.off + (j + 1), none⟩ := by unfold Addr.add; rw [if_neg (by omega)]
        rw [ea] at h2 h3
        clear ea
        have hpj := prevO_succ (s := s) (i := j) (by omega)
        have hcell := fun W (hW : Below wr.heap.size wr W) => (((hA.below hb).below hW).2 j (by omega))
        obtain ⟨p, hp⟩ : ∃ p, s[j]'(by omega) = p := ⟨_, rfl⟩
        have hcell2 : ∀ W, Below wr.heap.size wr W → (ad.add j).block < W.heap.size ∧ W.cell? (ad.add j) = some (.string (str p)) := fun W hW => by
          obtain ⟨-, ad', e, q2, q3⟩ := hcell W hW
          injection e with e
          subst e
          rw [hp] at q3
          exact ⟨q2, q3⟩
        have HC := Lib.hid hcell2
        rw [hp] at hpj
        have HPJ := Lib.hid hpj
        have hord := less_trans_like v p
        have HORD := Lib.hid hord
        have ej : ((j + 1 : Nat) : Int) - 1 = (j : Int) := by omega
        have tj : (0 : Int) < ((j + 1 : Nat) : Int) := by omega
        have tj2 : (0 : Int) < (j : Int) + 1 := by omega
        clear hord hpj hp hcell hcell2
        cases hL : Op.bytesLess p v with
        | false =>
          have e := HST.out
          rw [HPJ.out, hV, Bool.true_and] at e
          have e2 : R = (Op.bytesLess p v && setFrom (some v) (s.drop (j + 1 + 1))) := e
          rw [hL, Bool.false_and] at e2
          subst e2
          have tl : (Op.bytesLess v p || v == p) = true := by have := HORD.out; rw [hL] at this; revert this; generalize (Op.bytesLess v p || v == p) = q; cases q <;> simp
          clear hV hL e
          go_wp2_with (go_at_call 60; refine (c1 _ hT2).mono ?_; rintro e w1 ⟨rfl, hb1⟩; obtain ⟨q2, q3⟩ := HC.out _ hb1; dsimp only)
          go_ret
          exact ⟨rfl, below2 hb hb1 hsz⟩
        | true =>
          have e := HST.out
          rw [HPJ.out, hV, Bool.true_and] at e
          have e2 : R = (Op.bytesLess p v && setFrom (some v) (s.drop (j + 1 + 1))) := e
          rw [hL, Bool.true_and] at e2
          have HE : Hid (setFrom (prevO s (j + 1 + 1)) (s.drop (j + 1 + 1)) = R) := by show _ = _; rw [HNX.out, e2]
          have tl : (Op.bytesLess v p || v == p) = false := by have := HORD.out; rw [hL] at this; revert this; generalize (Op.bytesLess v p || v == p) = q; cases q <;> simp
          clear hV hL e e2
          go_wp2_with (go_at_call 60; refine (c1 _ hT2).mono ?_; rintro e w1 ⟨rfl, hb1⟩; obtain ⟨q2, q3⟩ := HC.out _ hb1; dsimp only)
          go_roundw
          case rel => exact ⟨j + 1 + 1, by omega, by go_num, HE.out, below2 hb hb1 hsz⟩
          case measure => simp [intOf]; omega
    · obtain rfl : i = s.length := by omega
      have e := HI.out
      rw [setFrom_end] at e
      subst e
      go_wp2_with fail
      go_ret
      exact ⟨rfl, hb⟩
def mayL (many : Bool) (v : List UInt8) (s : List (List UInt8)) : Bool := if many = true then (v == []) && setL s else valueL v && decide (s.length = 0)
set_option maxHeartbeats 1000000 in
theorem mayLook_c (mark : List UInt8) (nt many : Bool) (F : Nat) (v : List UInt8) (A : Option Addr) (cap : Nat) (s : List (List UInt8)) (w : World) (hl : s.length ≤ 16384) (hA : StrsAt w A s.length s) (hz : ∀ x ∈ s, x.length ≤ 16384) (hv : v.length ≤ 16384) (hT : Lib.Utf8Tabs 1 2 w) :
    Calls Tryz.prog 35 #[.agg #[.string (str mark), .bool nt, .bool many, .func (.func F) #[] #[]], .string (str v), .slice A s.length cap] w fun e w' => e = .returned (.bool (mayL many v s)) ∧ Below w.heap.size w w' := by
  have hst := fun (a : Addr) (w : World) => run_store Tryz.prog w a (.func (.func F) #[] #[]) .plain rfl
  have hb1 : Below w.heap.size w (w.alloc (.cells #[.string (str mark), .bool nt, .bool many, .func (.func F) #[] #[]] 74)) := (Below.refl _ _).alloc (Nat.le_refl _) _
  have hT1 := Utf8Tabs_below hT hb1
  cases many with
  | true =>
    have cs := maySet_c A s.length cap s _ hl (hA.below hb1) hz hT1
    have e : mayL true v s = ((v == []) && setL s) := rfl
    rw [e]
    obtain ⟨R, hR⟩ : ∃ R, setL s = R := ⟨_, rfl⟩
    rw [hR] at cs ⊢
    by_cases hv0 : v = []
    · subst hv0
      clear e hR
      go_enter Tryz.func35, Tryz.ntmps35
      go_wp2_with (go_at_call 59; refine cs.mono ?_; rintro e w1 ⟨rfl, hb2⟩; dsimp only)
      go_ret
      exact ⟨rfl, below2 hb1 hb2 hb1.size⟩
    · have tv : (v == []) = false := by rw [beq_eq_false_iff_ne]; exact hv0
      rw [tv, Bool.false_and]
      clear e hR hv0
      go_enter Tryz.func35, Tryz.ntmps35
      go_wp2_with fail
      go_ret
      exact ⟨rfl, hb1⟩
  | false =>
    have cv := value_c v _ (by omega) hT1
    have e : mayL false v s = (valueL v && decide (s.length = 0)) := rfl
    rw [e]
    cases hV : valueL v with
    | false =>
      rw [hV] at cv
      rw [Bool.false_and]
      clear e
      go_enter Tryz.func35, Tryz.ntmps35
      go_wp2_with (go_at_call 60; refine cv.mono ?_; rintro e w1 ⟨rfl, hb2⟩; dsimp only)
      go_ret
      exact ⟨rfl, below2 hb1 hb2 hb1.size⟩
    | true =>
      rw [hV] at cv
      rw [Bool.true_and]
      obtain ⟨b, hb⟩ : ∃ b, decide (s.length = 0) = b := ⟨_, rfl⟩
      have tb : ((s.length : Int) == 0) = b := by rw [← hb, Bool.eq_iff_iff]; simp
      rw [hb]
      clear e hb
      go_enter Tryz.func35, Tryz.ntmps35
      go_wp2_with (go_at_call 60; refine cv.mono ?_; rintro e w1 ⟨rfl, hb2⟩; dsimp only)
      go_ret
      exact ⟨rfl, below2 hb1 hb2 hb1.size⟩
theorem kind_many (k : Int) (hk : 0 ≤ k ∧ k ≤ 3) : ∃ mark nt F, kindL k = kindV mark nt (decide (k = 3)) (.func (.func F) #[] #[]) := by
  unfold kindL
  by_cases h0 : k = 0
  · subst h0; exact ⟨_, _, _, rfl⟩
  by_cases h1 : k = 1
  · subst h1; exact ⟨_, _, _, rfl⟩
  by_cases h2 : k = 2
  · subst h2; exact ⟨_, _, _, rfl⟩
  have h3 : k = 3 := by omega
  subst h3; exact ⟨_, _, _, rfl⟩
theorem chkL_in {m : Mat} (hk : 0 ≤ m.1 ∧ m.1 ≤ 3) : chkL m = (nameL m.2.1 && mayL (decide (m.1 = 3)) m.2.2.1 m.2.2.2) := by
  unfold chkL mayL
  by_cases h : m.1 = 3
  · simp [h]
  · simp [h, hk]
theorem chkL_out {m : Mat} (hk : ¬ (0 ≤ m.1 ∧ m.1 ≤ 3)) : chkL m = false := by
  unfold chkL
  rw [if_neg (by omega), if_neg hk, Bool.and_false]
set_option maxHeartbeats 1000000 in
theorem mcheck_c (m : Mat) (A : Option Addr) (cap : Nat) (w : World) (hm : smallM m) (hS : StrsAt w A m.2.2.2.length m.2.2.2) (hT : Lib.Utf8Tabs 1 2 w) :
    Calls Tryz.prog 21 #[.agg #[.int .i64 m.1, .string (str m.2.1), .string (str m.2.2.1), .slice A m.2.2.2.length cap]] w fun e w' => e = .returned (.int .i64 (eM (chkL m))) ∧ Below w.heap.size w w' := by
  have ck := fun W => kindOf_c m.1 W
  have e0 : eM true = 0 := rfl
  have e1 : eM false = 50 := rfl
  by_cases hk : 0 ≤ m.1 ∧ m.1 ≤ 3
  · rw [decide_eq_true hk] at ck
    rw [chkL_in hk]
    obtain ⟨mark, nt, F, ek⟩ := kind_many m.1 hk
    rw [ek] at ck
    obtain ⟨z1, z2, z3, z4⟩ := hm
    obtain ⟨k, n, v, s⟩ := m
    simp only at ck hS z1 z2 z3 z4 ⊢
    obtain ⟨many, hmany⟩ : ∃ b, decide (k = 3) = b := ⟨_, rfl⟩
    rw [hmany] at ck ⊢
    unfold kindV at ck
    have hst := fun (a : Addr) (w : World) => run_store Tryz.prog w a (.func (.func F) #[] #[]) .plain rfl
    have cn := fun W => name_c n W (by omega)
    have cm := fun W h h' => mayLook_c mark nt many F v A cap s W z3 h z4 z2 h'
    have d := blk_new w (.cells #[.int .i64 k, .string (str n), .string (str v), .slice A s.length cap] 57)
    have hba : Below w.heap.size w (w.alloc (.cells #[.int .i64 k, .string (str n), .string (str v), .slice A s.length cap] 57)) := (Below.refl _ _).alloc (Nat.le_refl _) _
    have hsa : w.heap.size < (w.alloc (.cells #[.int .i64 k, .string (str n), .string (str v), .slice A s.length cap] 57)).heap.size := by simp
    have hq : ∀ W1 W, Below (w.alloc (.cells #[.int .i64 k, .string (str n), .string (str v), .slice A s.length cap] 57)).heap.size (w.alloc (.cells #[.int .i64 k, .string (str n), .string (str v), .slice A s.length cap] 57)) W1 →
        Below (W1.alloc (.cells #[.string (str mark), .bool nt, .bool many, .func (.func F) #[] #[]] 74)).heap.size (W1.alloc (.cells #[.string (str mark), .bool nt, .bool many, .func (.func F) #[] #[]] 74)) W →
        (W.cell? ⟨W1.heap.size, 0, none⟩ = some (.string (str mark)) ∧ W.cell? ⟨W1.heap.size, 1, none⟩ = some (.bool nt) ∧ W.cell? ⟨W1.heap.size, 2, none⟩ = some (.bool many) ∧ W.cell? ⟨W1.heap.size, 3, none⟩ = some (.func (.func F) #[] #[]) ∧
        W.cell? ⟨w.heap.size, 0, none⟩ = some (.int .i64 k) ∧ W.cell? ⟨w.heap.size, 1, none⟩ = some (.string (str n)) ∧ W.cell? ⟨w.heap.size, 2, none⟩ = some (.string (str v)) ∧ W.cell? ⟨w.heap.size, 3, none⟩ = some (.slice A s.length cap)) ∧ Below w.heap.size w W := fun W1 W h1 h2 => by
      have hs1 := h1.size
      have x1 := (h2.block W1.heap.size (by simp)).trans (blk_new W1 _)
      have hx := h1.trans ((((Below.refl _ W1).alloc (Nat.le_refl _) _).mono hs1).trans (h2.mono (by simp at hs1 ⊢; omega)))
      have x2 := (hx.block w.heap.size hsa).trans d
      exact ⟨⟨blk_cell x1 0, blk_cell x1 1, blk_cell x1 2, blk_cell x1 3, blk_cell x2 0, blk_cell x2 1, blk_cell x2 2, blk_cell x2 3⟩, hba.trans (hx.mono (by omega))⟩
    have hq1 : ∀ W1, Below (w.alloc (.cells #[.int .i64 k, .string (str n), .string (str v), .slice A s.length cap] 57)).heap.size (w.alloc (.cells #[.int .i64 k, .string (str n), .string (str v), .slice A s.length cap] 57)) W1 →
        w.heap.size < W1.heap.size ∧ W1.cell? ⟨w.heap.size, 0, none⟩ = some (.int .i64 k) ∧ W1.cell? ⟨w.heap.size, 1, none⟩ = some (.string (str n)) ∧ W1.cell? ⟨w.heap.size, 2, none⟩ = some (.string (str v)) ∧ W1.cell? ⟨w.heap.size, 3, none⟩ = some (.slice A s.length cap) := fun W1 h1 => by
      have x2 := (h1.block w.heap.size hsa).trans d
      have := h1.size
      exact ⟨by omega, blk_cell x2 0, blk_cell x2 1, blk_cell x2 2, blk_cell x2 3⟩
    have HQ1 := Lib.hid hq1
    clear hq1
    have HQ := Lib.hid hq
    have HR : Hid (∀ W, Below w.heap.size w W → StrsAt W A s.length s ∧ Lib.Utf8Tabs 1 2 W) := fun W hW => ⟨hS.below hW, Utf8Tabs_below hT hW⟩
    clear d hq hmany ek hk
    cases hN : nameL n with
    | false =>
      rw [hN] at cn
      rw [Bool.false_and, e1]
      clear hN
      go_enter Tryz.func21, Tryz.ntmps21
      go_wp2_with (first | (go_at_call 33; refine (ck _).mono ?_; rintro e w1 ⟨rfl, hb1⟩; obtain ⟨r0, r1, r2, r3, r4⟩ := HQ1.out _ hb1; dsimp only) | (go_at_call 34; refine (cn _).mono ?_; rintro e w2 ⟨rfl, hb2⟩; obtain ⟨⟨p0, p1, p2, p3, q0, q1, q2, q3⟩, hbw⟩ := HQ.out _ _ hb1 hb2; dsimp only))
      go_ret
      exact ⟨rfl, hbw⟩
    | true =>
      rw [hN] at cn
      rw [Bool.true_and]
      obtain ⟨b, hb⟩ : ∃ b, mayL many v s = b := ⟨_, rfl⟩
      rw [hb] at cm ⊢
      clear hN hb
      cases b
      all_goals
        go_enter Tryz.func21, Tryz.ntmps21
        go_wp2_with (first | (go_at_call 33; refine (ck _).mono ?_; rintro e w1 ⟨rfl, hb1⟩; obtain ⟨r0, r1, r2, r3, r4⟩ := HQ1.out _ hb1; dsimp only) | (go_at_call 34; refine (cn _).mono ?_; rintro e w2 ⟨rfl, hb2⟩; obtain ⟨⟨p0, p1, p2, p3, q0, q1, q2, q3⟩, hbw⟩ := HQ.out _ _ hb1 hb2; dsimp only) | (go_at_call 35; refine (cm _ (HR.out _ hbw).1 (HR.out _ hbw).2).mono ?_; rintro e w3 ⟨rfl, hb3⟩; dsimp only))
        go_ret
        exact ⟨by first | rfl | rw [e0] | rw [e1], below2 hbw hb3 hbw.size⟩
  · rw [decide_eq_false hk] at ck
    rw [chkL_out hk, e1]
    have e : kindL m.1 = kindV [] false false .nilFunc := by
      unfold kindL
      rw [if_neg (by omega), if_neg (by omega), if_neg (by omega), if_neg (by omega)]
    rw [e] at ck
    unfold kindV at ck
    have hst := fun (a : Addr) (w : World) => run_store Tryz.prog w a .nilFunc .plain rfl
    clear hk e
    go_enter Tryz.func21, Tryz.ntmps21
    go_wp2_with (go_at_call 33; refine (ck _).mono ?_; rintro e w1 ⟨rfl, hb1⟩; have hsz1 := hb1.size; dsimp only)
    go_ret
    exact ⟨rfl, (((Below.refl _ _).alloc (Nat.le_refl _) _).trans (hb1.mono (by simp))).alloc (by simp at hsz1; omega) _⟩
end Go.Proofs.YtdbifbgjbfnfmaaGreatDoor
