/-
  A range over a function, as these texts use it: the iterator may keep cells of its own between two rounds; regions that draw their order in a round. Plain lemmas; they name no program.
-/
import Derived.Test.YteaelcimlmckjaaMem
import Derived.Deep.RegionHeld3
import Derived.Deep.Quiet
import Derived.RangeFuncNested
import Derived.RangeFuncCalls
import Derived.RangeFuncLeaves
import Derived.OrdersIn
import Derived.OwnWalkIn
import Derived.RangeFuncBox
import Derived.Maps.AppendAt
namespace Go.Proofs.Yteaelcimlmckjaa
open Go.RowKit Go.Deep
set_option linter.unusedVariables false

/-- A loop's own two blocks: its record, the rounds' deferred calls. -/
def bookObj : Obj → Bool
  | .loop _ => true
  | .deferred _ => true
  | _ => false
/-- J outlives new blocks, and whatever is done to blocks from n on that meet q. -/
def Bears {β : Type} (q : Obj → Bool) (n : Nat) (J : β → World → Prop) : Prop :=
  ∀ s A B F, J s A → Keeps F A B → (∀ k, k ∈ F → n ≤ k ∧ ∃ o : Obj, A.heap[k]? = some o ∧ q o = true) → J s B
theorem Bears.put {β : Type} {q : Obj → Bool} {n : Nat} {J : β → World → Prop} (h : Bears q n J) {s : β} {W : World} {k : Nat} {o : Obj} (o' : Obj) (hs : J s W) (hn : n ≤ k) (hk : W.heap[k]? = some o) (hq : q o = true) : J s (W.putObj k o') :=
  h s W _ [k] hs ⟨rfl, rfl, rfl, by simp, fun i hi hF => World.putObj_heap_other (by simpa using hF)⟩ (fun i hi => by
    obtain rfl : i = k := by simpa using hi
    exact ⟨hn, o, hk, hq⟩)
theorem Bears.alloc {β : Type} {q : Obj → Bool} {n : Nat} {J : β → World → Prop} (h : Bears q n J) {s : β} {W : World} (o : Obj) (hs : J s W) : J s (W.alloc o) :=
  h s W _ [] hs ((Keeps.refl [] W).alloc o) (fun i hi => by simp at hi)
/-- What a body does to a loop's two blocks: nothing. -/
def Books (B : Nat) (W W' : World) : Prop := ∀ (k : Nat) (o : Obj), B ≤ k → W.heap[k]? = some o → bookObj o = true → W'.heap[k]? = some o
theorem Books.of_keeps {B : Nat} {F : List Nat} {W W' : World} (h : Keeps F W W') (hF : ∀ k, k ∈ F → B ≤ k → ∀ o : Obj, W.heap[k]? = some o → bookObj o = false) : Books B W W' := fun k o hB hk hb => by
  refine h.block hk fun hf => ?_
  have := hF k hf hB o hk
  rw [hb] at this; cases this
theorem Books.refl (B : Nat) (W : World) : Books B W W := fun _ _ _ h _ => h
theorem Books.trans {B : Nat} {X Y Z : World} (h : Books B X Y) (k : Books B Y Z) : Books B X Z := fun i o hB hi hb => k i o hB (h i o hB hi hb) hb
theorem book_cells {w : World} {k : Nat} {cs : Array Value} {t : TypeId} {f : Nat × Nat} (h : w.heap[k]? = some (.cells cs t f)) : ∀ o : Obj, w.heap[k]? = some o → bookObj o = false := fun o ho => by
  rw [h] at ho; injection ho with ho; subst ho; rfl

/-- An iterator tells just the elements of xs, in their order, to a body that never leaves; q: which blocks it may turn between two rounds; Kp: what a round has to keep. -/
def Tells {α : Type} (F : Fence) (n : Nat) (P : Program) (g : Nat) (lb : Array Value) (encs : α → Array Value) (q : Obj → Bool) (Kp : World → World → Prop) (xs : List α) (w : World) : Prop :=
  ∀ (l : Nat) (J : List α → World → Prop) (W : World), Below w.heap.size w W → Bears q W.heap.size J →
    (∀ pre x rest W1, J pre W1 → xs = pre ++ x :: rest → YieldAt F (n - 1) P l (encs x) W1 fun e W' => e = .returned (.bool true) ∧ J (pre ++ [x]) W' ∧ Kp W1 W') → J [] W →
    CallsIn F n P g (#[.func (.yield l) #[] #[]] ++ lb) W fun e W' => (∃ v, e = .returned v) ∧ J xs W'

variable {F : Fence} {n : Nat} {P : Program}
/-- How a body that never leaves ends a round. -/
def roundEnd {α : Type} (B : Nat) (Kp : World → World → Prop) (I : List α → World → Prop) (ys : List α) (W : World) : Exit → Act → World → Prop
  | .normal, _, W' => Books B W W' ∧ Kp W W' ∧ I ys W'
  | _, _, _ => False
/-- The loop. -/
theorem loop_tells {α : Type} {g : Operand} {ps : Array Tmp} {assign body : Code} {Q : Exit → Act → World → Prop} {a : Act} {w : World} (hro : F.round = none) (h1 : 1 ≤ n)
    {gf : Nat} {lb : Array Value} (hg : a.eval g = .func (.func gf) #[] lb) (hFg : F.fn gf) (eg : ∀ args w, (callFunc gf args).run P w = .ok (.enter gf args) w)
    {encs : α → Array Value} {q : Obj → Bool} {Kp : World → World → Prop} {xs : List α} {w0 : World} (hseq : Tells F (n - 1) P gf lb encs q Kp xs w0) (hb0 : Below w0.heap.size w0 w) (hps : ∀ x, (encs x).size = ps.size)
    (hq : ∀ o, q o = true → bookObj o = false)
    (hKt : ∀ {A B C : World}, Kp A B → Kp B C → Kp A C) (hKb : ∀ (W : World) (k : Nat) (o o' : Obj), w.heap.size ≤ k → W.heap[k]? = some o → bookObj o = true → Kp W (W.putObj k o'))
    (I : List α → World → Prop) (hI : Bears (fun o => q o || bookObj o) w.heap.size I) (h0 : I [] w) (a₁ : α → Act)
    (hassign : ∀ (l : Nat) (x : α) (W : World) (K : Act → World → Prop), K (a₁ x) W →
      assign.wpIn (F.inRound l) (n - 1 - 1) P (Exit.then K (fun _ _ _ => False)) { tmps := (ps.zip (encs x)).foldl (fun t (p, v) => t.setIfInBounds p v) a.tmps, defers := [] } W)
    (hbody : ∀ (l : Nat) (pre : List α) (x : α) (rest : List α) (W : World), xs = pre ++ x :: rest → I pre W → body.wpIn (F.inRound l) (n - 1 - 1) P (roundEnd w.heap.size Kp I (pre ++ [x]) W) (a₁ x) W)
    (hdone : ∀ (D : Nat) (W : World), w.heap.size ≤ D → I xs W → W.heap[D]? = some (.deferred (some [])) → Q .normal { a with defers := { target := .collected D, args := #[] } :: a.defers } W) :
    (Code.rangeFunc g ps assign body).wpIn F n P Q a w := by
  refine wpIn_rangeFunc fun fn hfn => ?_
  rw [hro]
  have hbq : ∀ o : Obj, bookObj o = true → (q o || bookObj o) = true := fun o h => by rw [h]; simp
  generalize hD : w.heap.size = D at *
  obtain ⟨rc, hrc⟩ : ∃ rc : LoopState → Loop, rc = fun st => { state := st, pending := none, fn := fn, tmps := a.tmps, params := ps, assign := assign, body := body, defers := D } := ⟨_, rfl⟩
  have hent := run_enterLoop_outer (P := P) (w := w) fn a.tmps ps assign body
  rw [hD] at hent
  generalize hW1 : (w.alloc (.deferred (some []))).alloc (.loop { state := .ready, pending := none, fn := fn, tmps := a.tmps, params := ps, assign := assign, body := body, defers := D }) = W1 at hent
  have hk0 : W1.heap[D]? = some (.deferred (some [])) := by
    rw [← hW1, ← hD]; exact (Below.heap_alloc _ _ _ (by simp)).trans (World.alloc_heap_new w _)
  have hl0 : W1.heap[D + 1]? = some (.loop (rc .ready)) := by
    have h := World.alloc_heap_new (w.alloc (.deferred (some []))) (.loop (rc .ready))
    rw [World.size_alloc, hD, hrc] at h
    rw [← hW1, hrc]; exact h
  have hi0 : I [] W1 := by rw [← hW1]; exact hI.alloc _ (hI.alloc _ h0)
  have hb1 : Below w0.heap.size w0 W1 := by
    rw [← hW1]; exact hb0.trans ((((Below.refl _ w).alloc (Nat.le_refl _) _).alloc (by simp) _).mono hb0.size)
  have hsz : W1.heap.size = D + 2 := by rw [← hW1, ← hD]; simp
  refine ⟨D + 1, [{ target := .collected D, args := #[] }], W1, { target := .fn (.func gf) lb, args := #[.func (.yield (D + 1)) #[] #[]] }, W1, gf, #[.func (.yield (D + 1)) #[] #[]] ++ lb, W1, hent, ?_, ?_, ?_, fun _ => h1, ?_⟩
  · simp only [resolve, hg]
    simp [go_sem]
  · intro f' hf'
    simp [Target.leads] at hf'
    subst hf'
    exact hFg
  · simp [invoke, go_sem, eg]
  · have far : ∀ {A : World} {G : List Nat}, (∀ k, k ∈ G → W1.heap.size ≤ k ∧ ∃ o : Obj, A.heap[k]? = some o ∧ q o = true) → ∀ {k : Nat} {o : Obj}, A.heap[k]? = some o → bookObj o = true → k ∉ G := fun hG k o hk hb hm => by
      obtain ⟨_, o', h1, h2⟩ := hG k hm
      rw [hk] at h1; injection h1 with h1; subst h1
      rw [hq o h2] at hb; cases hb
    refine (hseq (D + 1) (fun pre W => I pre W ∧ W.heap[D + 1]? = some (.loop (rc .ready)) ∧ W.heap[D]? = some (.deferred (some []))) W1 hb1 ?_ ?_ ⟨hi0, hl0, hk0⟩).mono ?_
    · rintro s A B G ⟨hs, hl, hk⟩ hK hG
      exact ⟨hI s A B G hs hK (fun k hm => by obtain ⟨h1, o, h2, h3⟩ := hG k hm; exact ⟨by omega, o, h2, by simp [h3]⟩), hK.block hl (far hG hl rfl), hK.block hk (far hG hk rfl)⟩
    · rintro pre x rest W ⟨hs, hl, hk⟩ hx
      have hlt := lt_of_block hl
      have hy := run_yield (P := P) (args := encs x) hl (by rw [hrc]; exact hps x)
      rw [hrc] at hy
      have hbeg := run_beginRound (P := P) hl (by rw [hrc])
      refine ⟨fn, _, assign, body, hy, roundIn_of_wpIn hfn (hassign _ x W _ ⟨_, hbeg, ?_⟩)⟩
      have e1 : ({ rc .ready with state := .busy } : Loop) = rc .busy := by rw [hrc]
      rw [e1]
      have hl2 : (W.putObj (D + 1) (.loop (rc .busy))).heap[D + 1]? = some (.loop (rc .busy)) := World.putObj_heap_same hlt
      have hk2 : (W.putObj (D + 1) (.loop (rc .busy))).heap[D]? = some (.deferred (some [])) := (World.putObj_heap_other (by omega)).trans hk
      refine wpIn_mono (hbody _ pre x rest _ hx (hI.put _ hs (by omega) hl (hbq _ rfl))) ?_
      rintro e a3 W3 hp
      cases e with
      | normal =>
        obtain ⟨hbk, hkp, hi3⟩ := hp
        have hl3 := hbk _ _ (by omega) hl2 rfl
        have hk3 := hbk _ _ (Nat.le_refl _) hk2 rfl
        have hend := run_endRound (P := P) none hl3
        have e2 : ({ rc .busy with state := if (none : Option Code).isNone then .ready else .done, pending := none } : Loop) = rc .ready := by rw [hrc]; rfl
        rw [e2] at hend
        refine ⟨_, _, hend, rfl, ⟨hI.put _ hi3 (by omega) hl3 (hbq _ rfl), World.putObj_heap_same (lt_of_block hl3), (World.putObj_heap_other (by omega)).trans hk3⟩, ?_⟩
        exact hKt (hKt (hKb _ _ _ _ (by omega) hl rfl) hkp) (hKb _ _ _ _ (by omega) hl3 rfl)
      | ret => exact hp.elim
      | exit id => exact hp.elim
      | goto t => exact hp.elim
      | panic ch => exact hp.elim
      | outgrown => exact hp.elim
    · rintro e W2 ⟨⟨v, rfl⟩, hi2, hl2, hk2⟩
      have hend := run_endLoop (P := P) hl2 (by rw [hrc]; simp)
      refine ⟨none, _, by rw [hrc] at hend; exact hend, ?_⟩
      exact hdone D _ (Nat.le_refl _) (hI.put _ hi2 (by omega) hl2 (hbq _ rfl)) ((World.putObj_heap_other (by omega)).trans hk2)

/-! ### Regions that draw their order, in a round -/
/-- No operation defers. -/
def noDefer (ops : Array Oper) : Bool := ops.all fun o => match o.op with | .defer _ => false | _ => true
theorem get_lt {ops : Array Oper} {i : Nat} {o : Oper} (ho : ops[i]? = some o) : i < ops.size := (Array.getElem?_eq_some_iff.1 ho).1
theorem noDefer_at {ops : Array Oper} (h : noDefer ops = true) {i : Nat} {o : Oper} (ho : ops[i]? = some o) (c : Call) : o.op ≠ .defer c := by
  intro hc
  have h1 := Array.all_eq_true.1 h i (get_lt ho)
  have h2 : ops[i]'(get_lt ho) = o := by
    obtain ⟨h3, h4⟩ := Array.getElem?_eq_some_iff.1 ho; exact h4
  rw [h2, hc] at h1
  cases h1
/-- What is walked plainly is walked in a round, where nothing defers and nothing can outgrow. -/
theorem ops_round {ops : Array Oper} (hnd : noDefer ops = true) {Q : Exit → Act → World → Prop} (hout : ¬ LetsOut Q) (l : Nat) : ∀ (L : List Nat) (a : Act) (w : World), wpOps P ops Q L a w → wpOpsIn (Fence.wide.inRound l) n P ops Q L a w
  | [], _, _, h => h
  | i :: L, a, w, h => by
    have ih := ops_round hnd hout l L
    unfold wpOps at h
    unfold wpOpsIn
    cases ho : ops[i]? with
    | none => simp only [ho] at h ⊢; exact ih _ _ h
    | some o =>
      simp only [ho] at h ⊢
      by_cases hw : Region.wanted o (yielded ops a.tmps) = true
      · rw [if_pos hw] at h ⊢
        rcases h with h | h
        case inr => exact absurd h.2 hout
        refine ⟨fun _ _ => trivial, ?_⟩
        rw [Oper.semAt_plain _ _ _ (noDefer_at hnd ho)]
        unfold Oper.wp at h
        generalize (execOp a.eval o).run P w = r at h ⊢
        cases r with
        | halt x w' => cases x <;> exact h
        | ok x w' =>
          cases x with
          | value v => exact ih _ _ h
          | skip => exact ih _ _ h
          | defer d => exact ih _ _ h
          | enter f args =>
            refine ⟨fun h => (by simp [Fence.wide] at h), CallsIn.inRound l (callsIn_wide.2 (h.mono fun e w'' he => ?_))⟩
            cases e with
            | returned v => exact ih _ _ he
            | panicked c => exact he
            | outgrown => exact he
          | row row args => exact ⟨fun h => (by simp [Fence.wide] at h), fun c cs _ => by obtain ⟨v, w'', hr, hs⟩ := h c cs; exact ⟨v, w'', ih _ _ hr, stepsIn_wide.2 hs⟩⟩
          | round l f tmps assign body => exact h.elim
          | _ => exact h.elim
      · rw [if_neg hw] at h ⊢
        exact ⟨fun _ _ => trivial, ih _ _ h⟩
/-- A region that draws its order, in a round, out of its plain walk. -/
theorem region_round {ops : Array Oper} {Q : Exit → Act → World → Prop} {id l : Nat} {a : Act} {w : World} (hm : P.follows .mixedOrders = true) (hnd : noDefer ops = true) (hout : ¬ LetsOut Q)
    (h : wpAny P .any ops Q ops.size (Array.replicate ops.size false) a w.drew) : (Code.region id ops true).wpIn (Fence.wide.inRound l) n P Q a w :=
  wpIn_region_draw fun t => by
    simp only [Region.schedule, hm, Bool.true_or, if_true]
    exact ops_round hnd hout l _ _ _ (wpAny_sound ops.size t _ a _ h)
theorem region_round_held {ops : Array Oper} {Q : Exit → Act → World → Prop} {id l : Nat} {a : Act} {w : World} {S : World → Prop} (hm : P.follows .mixedOrders = true) (hnd : noDefer ops = true) (hout : ¬ LetsOut Q) (hS : S w.drew)
    (h : S w.drew → wpAnyH P .any ops Q S ops.size (Array.replicate ops.size false) a w.drew) : (Code.region id ops true).wpIn (Fence.wide.inRound l) n P Q a w :=
  region_round hm hnd hout (wpAny_of_held _ _ _ _ (h hS))
theorem roundEnd_out {α : Type} {B : Nat} {Kp : World → World → Prop} {I : List α → World → Prop} {ys : List α} {W : World} : ¬ LetsOut (roundEnd B Kp I ys W) := fun ⟨_, _, h⟩ => h
theorem then_out {K : Act → World → Prop} {Q : Exit → Act → World → Prop} (h : ¬ LetsOut Q) : ¬ LetsOut (Exit.then K Q) := h

/-! ### What a body spares -/
/-- All blocks of cells of another type than t, but those in F. -/
def Spares (F : List Nat) (t : TypeId) (W W' : World) : Prop := ∀ (k : Nat) (cs : Array Value) (ty : TypeId) (f : Nat × Nat), W.heap[k]? = some (.cells cs ty f) → ty ≠ t → k ∉ F → W'.heap[k]? = some (.cells cs ty f)
theorem Spares.trans {F : List Nat} {t : TypeId} {X Y Z : World} (h : Spares F t X Y) (k : Spares F t Y Z) : Spares F t X Z := fun i cs ty f hi ht hF => k i cs ty f (h i cs ty f hi ht hF) ht hF
theorem Spares.refl (F : List Nat) (t : TypeId) (W : World) : Spares F t W W := fun _ _ _ _ h _ _ => h
theorem Spares.of_keeps {F G : List Nat} {t : TypeId} {W W' : World} (h : Keeps G W W') (hG : ∀ k, k ∈ G → k ∈ F ∨ W.heap.size ≤ k ∨ ∃ cs f, W.heap[k]? = some (.cells cs t f)) : Spares F t W W' := fun k cs ty f hk ht hF => by
  refine h.block hk fun hg => ?_
  rcases hG k hg with h1 | h1 | ⟨cs', f', h1⟩
  · exact hF h1
  · have := lt_of_block hk; omega
  · rw [hk] at h1; injection h1 with h1; injection h1 with _ h1; exact ht h1
/-- What a round of a loop spares: what lay below n₀, and the others' cells. -/
def Spared (n₀ : Nat) (F : List Nat) (t : TypeId) (W W' : World) : Prop := Below n₀ W W' ∧ Spares F t W W'
theorem Spared.trans {n₀ : Nat} {F : List Nat} {t : TypeId} {X Y Z : World} (h : Spared n₀ F t X Y) (k : Spared n₀ F t Y Z) : Spared n₀ F t X Z := ⟨h.1.trans k.1, h.2.trans k.2⟩
theorem Spared.book {n₀ B : Nat} {F : List Nat} {t : TypeId} (hn : n₀ ≤ B) (W : World) (k : Nat) (o o' : Obj) (hk : B ≤ k) (h : W.heap[k]? = some o) (hb : bookObj o = true) : Spared n₀ F t W (W.putObj k o') := by
  have hK : Keeps [k] W (W.putObj k o') := ⟨rfl, rfl, rfl, by simp, fun i hi hF => World.putObj_heap_other (by simpa using hF)⟩
  refine ⟨hK.to (by have := lt_of_block h; omega) (fun f hf => by simp at hf; omega), fun i cs ty f hi _ _ => hK.block hi ?_⟩
  intro hm
  obtain rfl : i = k := by simpa using hm
  rw [hi] at h; injection h with h; subst h; cases hb

/-! ### A variable's box; 'x = append(x, ..)' -/
theorem not_book {W : World} {k m : Nat} {cs : Array Value} {t : TypeId} {f : Nat × Nat} {F : List Nat} {q : Obj → Bool} (h : W.heap[k]? = some (.cells cs t f)) (hF : ∀ k, k ∈ F → m ≤ k ∧ ∃ o : Obj, W.heap[k]? = some o ∧ q o = true) (hq : q (.cells cs t f) = false) : k ∉ F := fun hm => by
  obtain ⟨_, o, h1, h2⟩ := hF k hm
  rw [h] at h1; injection h1 with h1; subst h1
  rw [hq] at h2; cases h2
theorem row_block {W : World} {base : Nat} {e : TypeId} {size n : Nat} {v : Value} {xs : List Value} (h : W.ownsRow base e size v n xs) {k : Nat} (hk : v.ownBlock = some k) : ∃ cs, W.heap[k]? = some (.cells cs e (0, 0)) := by
  rcases h.2 with ⟨rfl, _⟩ | ⟨g, cap, cur, rfl, _, hg, _⟩
  · simp [Value.ownBlock] at hk
  · obtain rfl : g = k := by simpa [Value.ownBlock] using hk
    exact ⟨_, hg⟩
theorem box_keeps {F : List Nat} {W W' : World} {B : Nat} {t : TypeId} {v : Value} (h : Boxed W B t v) (hK : Keeps F W W') (hB : B ∉ F) : Boxed W' B t v := hK.block h hB
theorem box_below {w w' : World} {B n : Nat} {t : TypeId} {v : Value} (h : Boxed w B t v) (hb : Below n w w') (hn : w.heap.size ≤ n) : Boxed w' B t v := (hb.block B (Nat.lt_of_lt_of_le h.lt hn)).trans h
theorem box_far {W : World} {B b : Nat} {t : TypeId} {v : Value} (h : Boxed W B t v) (hne : B ≠ b) (u : Value) : Boxed (W.setCell ⟨b, 0, none⟩ u) B t v := blk_far h (p := ⟨b, 0, none⟩) hne u
theorem box_made {n : Nat} {W w : World} (h : Below n W w) (t : TypeId) (v : Value) : Boxed (w.alloc (.cells #[v] t)) w.heap.size t v := Boxed.new _ _ _
theorem mem_push {k B : Nat} {v : Value} : k ∈ B :: v.ownBlock.toList ↔ k = B ∨ v.ownBlock = some k := by
  rw [List.mem_cons]; simp
/-- Two blocks of cells of two types are two. -/
theorem ne_type {W : World} {k k' : Nat} {cs cs' : Array Value} {t t' : TypeId} {f f' : Nat × Nat} (h : W.heap[k]? = some (.cells cs t f)) (h' : W.heap[k']? = some (.cells cs' t' f')) (ht : t ≠ t') : k ≠ k' := by
  rintro rfl
  rw [h] at h'; injection h' with h'; injection h' with _ h'; exact ht h'
theorem push {W w1 : World} {n₀ B : Nat} {t e : TypeId} {v v' : Value} {k m : Nat} {xs ys : List Value} {tmp : Obj} {size : Nat} (hv : Boxed W B t v) (hte : t ≠ e) (hrow : W.ownsRow n₀ e size v k xs) (hn : n₀ ≤ W.heap.size) (hB : n₀ ≤ B)
    (hown : w1.ownsRow n₀ e size v' m ys) (hg : (W.alloc tmp).grownBy w1 v.ownBlock) :
    Boxed w1 B t v ∧ Boxed (w1.setCell ⟨B, 0, none⟩ v') B t v' ∧ (w1.setCell ⟨B, 0, none⟩ v').ownsRow n₀ e size v' m ys ∧ Keeps (B :: v.ownBlock.toList) W (w1.setCell ⟨B, 0, none⟩ v') := by
  obtain ⟨h1, h2, h3, _, _⟩ := hv.appended hte hrow hn hB hown hg
  exact ⟨h1, h2, h3, (((Keeps.refl _ W).alloc tmp).grown hg (fun k hk => .inl (by simp [hk]))).setCell (p := ⟨B, 0, none⟩) (.inl (by simp)) v'⟩
theorem listIn_app {w : World} {ops : Array Oper} {rest : List Oper} {o : Oper} {a : Act} {Q : Exit → Act → World → Prop}
    (hgd : o.guard = none) (s x : Operand) (t : TypeId) (hop : o.op = .call { callee := .builtin .append, args := #[s, x], argTypes := #[t, t] })
    (base : Nat) (e : TypeId) (i : TypeInfo) (z : Value) (size bytes : Nat) (ht : P.underlying t = some (.slice e)) (hi : P.info? e = some i) (hz : i.zero = some z)
    (hsize : i.size = size) (hby : i.bytes = bytes) (hzs : z.cells.size = size) (hsz : 0 < size)
    (v : Value) (k : Nat) (xs : List Value) (hs : a.eval s = v) (hown : w.ownsRow base e size v k xs)
    (ad : Addr) (m c : Nat) (news : List Value) (hx : a.eval x = .slice (some ad) m c) (hl : news.length = m * size) (hnews : ∀ j u, news[j]? = some u → w.cell? (ad.add j) = some u) (h1 : ∀ u ∈ news, u.oneCell' = true)
    (h63 : k + m ≤ maxLen) (hbytes : (k + m) * bytes ≤ 140737488355328) (hbase : base ≤ w.heap.size)
    (h : ∀ A cap w', w'.ownsRow base e size (.slice A (k + m) cap) (k + m) (xs ++ news) → w.grownBy w' v.ownBlock → (Value.ownBlock (.slice A (k + m) cap) = v.ownBlock ∨ Value.ownBlock (.slice A (k + m) cap) = some w.heap.size) → wpListIn F n P ops Q rest (a.put o.dst (.slice A (k + m) cap)) w') :
    wpListIn F n P ops Q (o :: rest) a w := by
  refine wpListIn_plain hgd fun K hK => ?_
  obtain ⟨v', w', hr, h2, h3, _, h5⟩ := run_append_own_at (P := P) w base t o.type e i z size bytes ht hi hz hsize hby hzs hsz v k xs hown ad m c news hl hnews h1 h63 hbytes hbase
  obtain ⟨A, cap, rfl⟩ := row_slice h2
  unfold Oper.wpIn
  refine ⟨fun f hf => ?_, ?_⟩
  · simp [Oper.about, hop, resolve, Target.leads, Sem.run_pure] at hf
  · rw [Oper.semAt_plain F _ _ (by rw [hop]; intro c hc; cases hc)]
    unfold execOp
    simp only [hop, resolve, invoke, builtin, Sem.run_bind, Sem.run_pure, Result.andThen_ok, List.map_toArray, List.map_cons, List.map_nil, hs, hx, hr]
    exact hK _ _ (h A cap w' h2 h3 h5)
end Go.Proofs.Yteaelcimlmckjaa
