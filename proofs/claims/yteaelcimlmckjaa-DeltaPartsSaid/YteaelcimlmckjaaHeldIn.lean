/-
  A region that draws its order, taken by hand, inside a fence and in a round (XHeld's way): the one call that may come up may be a loop's own yield. Plain lemmas; they name no program.
-/
import Derived.Test.YteaelcimlmckjaaHeld
import Derived.Test.YteaelcimlmckjaaRange
namespace Go.Proofs.Yteaelcimlmckjaa
open Go.RowKit Go.Deep
set_option linter.unusedVariables false
section
variable {F : Fence} {n : Nat} {P : Program} {ops : Array Oper} {Q : Exit → Act → World → Prop} {md : Region.Mode} {S : World → Prop}
theorem wpIn_plain (hF : ∀ f, F.fn f) (hnd : noDefer ops = true) {j : Nat} {o : Oper} (ho : ops[j]? = some o) (a : Act) (w : World) (K : Act → World → Prop) :
    o.wpIn F n P a w K Q ↔ o.uponIn F n P a K Q ((execOp a.eval o).run P w) := by
  unfold Oper.wpIn
  rw [Oper.semAt_plain _ _ _ (noDefer_at hnd ho)]
  exact ⟨fun h => h.2, fun h => ⟨fun f _ => hF f, h⟩⟩
/-- Of two operations that are apart either may come first, where the one's value hangs on S alone. -/
theorem opIn_swap (hF : ∀ f, F.fn f) (hnd : noDefer ops = true) {j : Nat} {oi oj : Oper} {v : Value} (hj : ops[j]? = some oj) (hap : oi.apart ops oj = true) (hsi : ∀ cs b, oi.op ≠ .select cs b) (hsj : ∀ cs b, oj.op ≠ .select cs b)
    (hQ : ∀ c a w, Q (.panic c) (a.put oi.dst v) w → Q (.panic c) a w) {K : Act → World → Prop} {a : Act} {w : World} (hy : YieldsIf P ops S oi v a) (h : wpOpIn F n P ops Q j K (a.put oi.dst v) w) :
    wpOpIn F n P ops Q j (fun a' w' => YieldsIf P ops S oi v a' ∧ K (a'.put oi.dst v) w') a w := by
  obtain ⟨h1, h2, h3⟩ := Oper.apart_spec hap
  have stay : ∀ u, YieldsIf P ops S oi v (a.put oj.dst u) := fun u => hy.of_same (execOp_put oi hsi a oj.dst u h3) (wanted_put oi a oj.dst u h3)
  unfold wpOpIn at h ⊢
  rw [hj] at h ⊢
  simp only at h ⊢
  rw [wanted_put oj a oi.dst v h1] at h
  by_cases hw : Region.wanted oj (yielded ops a.tmps) = true
  · rw [if_pos hw] at h ⊢
    rw [wpIn_plain hF hnd hj, execOp_put oj hsj a oi.dst v h1] at h
    rw [wpIn_plain hF hnd hj]
    generalize (execOp a.eval oj).run P w = r at h ⊢
    have back : ∀ u w', K ((a.put oi.dst v).put oj.dst u) w' → YieldsIf P ops S oi v (a.put oj.dst u) ∧ K ((a.put oj.dst u).put oi.dst v) w' := fun u w' hk => ⟨stay u, by rw [← Act.put_comm a v u h2]; exact hk⟩
    cases r with
    | halt x w' => cases x <;> first | exact h.elim | exact hQ _ _ _ h
    | ok x w' =>
      cases x with
      | value u => exact back u _ h
      | skip => exact back _ _ h
      | defer d =>
        refine ⟨(hy.of_same (a' := { a with defers := d :: a.defers }) rfl rfl).of_same (execOp_put oi hsi _ oj.dst _ h3) (wanted_put oi _ oj.dst _ h3), ?_⟩
        rw [← Act.put_comm _ v undef h2, ← Act.put_defers]
        exact h
      | enter f args =>
        refine ⟨h.1, h.2.mono fun e w'' he => ?_⟩
        cases e with
        | returned u => exact back u _ he
        | panicked c => exact hQ _ _ _ he
        | outgrown => exact he
      | row row args => exact ⟨h.1, h.2.mono fun u w'' he => back u _ he⟩
      | round l f tmps assign body =>
        refine ⟨h.1, h.2.mono fun e w'' he => ?_⟩
        cases e with
        | returned u => exact back u _ he
        | panicked c => exact hQ _ _ _ he
        | outgrown => exact he
      | _ => exact h.elim
  · rw [if_neg hw] at h ⊢
    exact ⟨fun f _ => hF f, stay undef, by rw [← Act.put_comm a v undef h2]; exact h.2⟩
/-- Whatever order is picked, S holding behind each operation. -/
def anyIn (F : Fence) (n : Nat) (P : Program) (md : Region.Mode) (ops : Array Oper) (Q : Exit → Act → World → Prop) (S : World → Prop) : Nat → Array Bool → Act → World → Prop
  | 0, listed, a, w => Region.ready md ops listed = [] ∧ Q .normal a w
  | fuel + 1, listed, a, w => (Region.ready md ops listed = [] → Q .normal a w) ∧
    ∀ i, i ∈ Region.ready md ops listed → wpOpIn F n P ops Q i (fun a' w' => S w' ∧ anyIn F n P md ops Q S fuel (listed.setIfInBounds i true) a' w') a w
theorem anyIn_out : ∀ (fuel : Nat) (listed : Array Bool) (a : Act) (w : World), anyIn F n P md ops Q S fuel listed a w → wpAnyIn F n P md ops Q fuel listed a w
  | 0, _, _, _, h => h
  | fuel + 1, _, _, _, h => ⟨h.1, fun i hi => wpOpIn_mono (fun a' w' h' => anyIn_out fuel _ a' w' h'.2) (h.2 i hi)⟩
/-- An operation whose value hangs on S alone may be taken first. -/
theorem anyIn_first (hF : ∀ f, F.fn f) (hnd : noDefer ops = true) {i : Nat} {oi : Oper} {v : Value} (hi : ops[i]? = some oi) (hs : Region.noSelect ops = true) (hQ : ∀ c a w, Q (.panic c) (a.put oi.dst v) w → Q (.panic c) a w) :
    ∀ (fuel : Nat) (listed : Array Bool) (a : Act) (w : World),
      (∀ j oj, ops[j]? = some oj → j ≠ i → listed.getD j true = false → (∀ e ∈ oj.after, Region.binds md e = true → e.on ≠ i) → oi.apart ops oj = true) →
      i ∈ Region.ready md ops listed → YieldsIf P ops S oi v a → S w → anyIn F n P md ops Q S fuel (listed.setIfInBounds i true) (a.put oi.dst v) w → anyIn F n P md ops Q S (fuel + 1) listed a w
  | fuel, listed, a, w, hfree, hr, hy, hS, H => by
    have hsel := Region.noSelect_spec hs
    refine ⟨fun h => absurd hr (by rw [h]; simp), fun j hj => ?_⟩
    by_cases hji : j = i
    · subst hji
      unfold wpOpIn
      rw [hi]
      simp only
      rcases hy with ⟨hw, hv⟩ | ⟨hw, rfl⟩
      · rw [if_pos hw, wpIn_plain hF hnd hi, hv w hS]
        exact ⟨hS, H⟩
      · rw [if_neg (by rw [hw]; simp)]
        exact ⟨fun f _ => hF f, hS, H⟩
    · have hj' := ready_mono hj hji
      cases fuel with
      | zero => rw [H.1] at hj'; cases hj'
      | succ fuel =>
        obtain ⟨hjun, oj, hoj, hall⟩ := mem_ready.1 hj
        have hnot : ∀ e ∈ oj.after, Region.binds md e = true → e.on ≠ i := fun e he hb heq => by
          have h1 := hall e he hb
          have h0 := (mem_ready.1 hr).1
          rw [heq] at h1
          rcases Nat.lt_or_ge i listed.size with h' | h'
          · simp [h'] at h0 h1; rw [h0] at h1; cases h1
          · simp [Array.getElem?_eq_none h'] at h1
        refine wpOpIn_mono ?_ (opIn_swap hF hnd hoj (hfree j oj hoj hji hjun hnot) (fun cs b => hsel i oi cs b hi) (fun cs b => hsel j oj cs b hoj) hQ hy (H.2 j hj'))
        rintro a' w' ⟨h1, h2, h3⟩
        refine ⟨h2, anyIn_first hF hnd hi hs hQ fuel (listed.setIfInBounds j true) a' w' (fun k ok hk hki hun hno => ?_) (ready_mono hr (Ne.symm hji)) h1 h2 (by rw [Array.setIfInBounds_comm _ _ hji]; exact h3)⟩
        refine hfree k ok hk hki ?_ hno
        by_cases hjk : j = k
        · subst hjk; exact hjun
        · rwa [getD_set_ne true hjk] at hun
theorem heldIn_w (hF : ∀ f, F.fn f) (hnd : noDefer ops = true) {i : Nat} {d : Option Nat} {v : Value} {fuel : Nat} {listed : Array Bool} {a : Act} {w : World} (hd : (ops[i]?).map (·.dst) = some d)
    (hs : Region.noSelect ops = true) (hf : Region.free md ops listed i = true) (hr : (Region.ready md ops listed).contains i = true)
    (hQ : ∀ c a w, Q (.panic c) (a.put d v) w → Q (.panic c) a w) (hw : (ops[i]?).map (fun o => Region.wanted o (yielded ops a.tmps)) = some true)
    (hy : ∀ w', S w' → match ops[i]? with | some o => (execOp a.eval o).run P w' = .ok (.value v) w' | none => True) (hS : S w)
    (h : anyIn F n P md ops Q S fuel (listed.setIfInBounds i true) (a.put d v) w) : anyIn F n P md ops Q S (fuel + 1) listed a w := by
  cases ho : ops[i]? with
  | none => rw [ho] at hd; cases hd
  | some o =>
    rw [ho] at hd hw
    simp only [Option.map_some, Option.some.injEq] at hd hw
    subst hd
    exact anyIn_first hF hnd ho hs hQ fuel listed a w (Region.free_spec ho hf) (by simpa using hr) (.inl ⟨hw, fun w' hSw => by have := hy w' hSw; rw [ho] at this; exact this⟩) hS h
theorem heldIn_u (hF : ∀ f, F.fn f) (hnd : noDefer ops = true) {i : Nat} {d : Option Nat} {fuel : Nat} {listed : Array Bool} {a : Act} {w : World} (hd : (ops[i]?).map (·.dst) = some d)
    (hs : Region.noSelect ops = true) (hf : Region.free md ops listed i = true) (hr : (Region.ready md ops listed).contains i = true)
    (hQ : ∀ c a w, Q (.panic c) (a.put d undef) w → Q (.panic c) a w) (hw : (ops[i]?).map (fun o => Region.wanted o (yielded ops a.tmps)) = some false) (hS : S w)
    (h : anyIn F n P md ops Q S fuel (listed.setIfInBounds i true) (a.put d undef) w) : anyIn F n P md ops Q S (fuel + 1) listed a w := by
  cases ho : ops[i]? with
  | none => rw [ho] at hd; cases hd
  | some o =>
    rw [ho] at hd hw
    simp only [Option.map_some, Option.some.injEq] at hd hw
    subst hd
    exact anyIn_first hF hnd ho hs hQ fuel listed a w (Region.free_spec ho hf) (by simpa using hr) (.inr ⟨hw, rfl⟩) hS h
/-- Operation i alone may come up. -/
theorem heldIn_c (hF : ∀ f, F.fn f) (hnd : noDefer ops = true) {i : Nat} {fuel : Nat} {listed : Array Bool} {a : Act} {w : World} (hr : Region.ready md ops listed = [i]) (hw : (ops[i]?).map (fun o => Region.wanted o (yielded ops a.tmps)) = some true)
    (h : ∀ K : Act → World → Prop, Shut (∀ a w, S w → (S w → anyIn F n P md ops Q S fuel (listed.setIfInBounds i true) a w) → K a w) → match ops[i]? with | some o => o.uponIn F n P a K Q ((execOp a.eval o).run P w) | none => True) :
    anyIn F n P md ops Q S (fuel + 1) listed a w := by
  refine ⟨fun h0 => (by rw [hr] at h0; cases h0), fun j hj => ?_⟩
  rw [hr] at hj
  obtain rfl : j = i := by simpa using hj
  cases ho : ops[j]? with
  | none => rw [ho] at hw; cases hw
  | some o =>
    rw [ho] at hw h
    simp only [Option.map_some, Option.some.injEq] at hw
    unfold wpOpIn
    rw [ho]
    simp only
    rw [if_pos hw, wpIn_plain hF hnd ho]
    exact h _ (fun a w hS h => ⟨hS, h hS⟩)
theorem anyIn_gen {fuel : Nat} {listed : Array Bool} {a : Act} {w : World} (h : ∀ Wc, Wc = w → anyIn F n P md ops Q S fuel listed a Wc) : anyIn F n P md ops Q S fuel listed a w := h w rfl
def InComes (F : Fence) (n : Nat) (P : Program) (ops : Array Oper) (Q : Exit → Act → World → Prop) (md : Region.Mode) (S : World → Prop) (fuel : Nat) (listed : Array Bool) (a : Act) (w : World) : List Nat → Prop
  | [] => True
  | i :: rs => ((ops[i]?).map (fun o => Region.wanted o (yielded ops a.tmps)) = some true ∧
      ∀ K : Act → World → Prop, Shut (∀ a w, S w → (S w → anyIn F n P md ops Q S fuel (listed.setIfInBounds i true) a w) → K a w) → match ops[i]? with | some o => o.uponIn F n P a K Q ((execOp a.eval o).run P w) | none => True) ∧
    InComes F n P ops Q md S fuel listed a w rs
/-- Several may come up. -/
theorem heldIn_many (hF : ∀ f, F.fn f) (hnd : noDefer ops = true) {rs : List Nat} {fuel : Nat} {listed : Array Bool} {a : Act} {w : World} (hr : Region.ready md ops listed = rs) (hne : rs ≠ []) (h : InComes F n P ops Q md S fuel listed a w rs) :
    anyIn F n P md ops Q S (fuel + 1) listed a w := by
  refine ⟨fun h0 => absurd (hr ▸ h0) hne, fun j hj => ?_⟩
  rw [hr] at hj
  clear hr hne
  induction rs with
  | nil => cases hj
  | cons i rs ih =>
    obtain ⟨⟨hw, h1⟩, h2⟩ := h
    rcases List.mem_cons.1 hj with rfl | hj
    · cases ho : ops[j]? with
      | none => rw [ho] at hw; cases hw
      | some o =>
        rw [ho] at hw h1
        simp only [Option.map_some, Option.some.injEq] at hw
        unfold wpOpIn
        rw [ho]
        simp only
        rw [if_pos hw, wpIn_plain hF hnd ho]
        exact h1 _ (fun a w hS h => ⟨hS, h hS⟩)
    · exact ih h2 hj
theorem anyIn_done {listed : Array Bool} {a : Act} {w : World} (hr : Region.ready md ops listed = []) (h : Q .normal a w) : ∀ fuel, anyIn F n P md ops Q S fuel listed a w
  | 0 => ⟨hr, h⟩
  | _ + 1 => ⟨fun _ => h, fun i hi => by rw [hr] at hi; cases hi⟩
theorem region_heldIn {id : Nat} {a : Act} {w : World} (hm : P.follows .mixedOrders = true) (hS : S w.drew) (h : S w.drew → anyIn F n P .any ops Q S ops.size (Array.replicate ops.size false) a w.drew) : (Code.region id ops true).wpIn F n P Q a w :=
  wpIn_region_any hm (anyIn_out _ _ _ _ (h hS))
end
end Go.Proofs.Yteaelcimlmckjaa
