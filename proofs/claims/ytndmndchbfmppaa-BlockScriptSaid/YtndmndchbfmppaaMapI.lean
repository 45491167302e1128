/-
  A map whose keys are integers and whose elements are whatever values. Plain lemmas over the library's laws (an element reads as itself); they name no program.
-/
import Derived.Test.YtndmndchbfmppaaMem
import Derived.Maps.OwnSet
import Derived.Maps.RangeWalk
namespace Go.Proofs.Ytndmndchbfmppaa
open Go.RowKit Go.Deep Go.ChangeMaps
open Go.Maps (Keyed)
set_option linter.unusedVariables false
set_option linter.unusedSimpArgs false

/-- An element reads as itself. -/
def anyI (v : Value) : Option (DataW Value × List MemPlace) := some (.held v, [])
def unheldI : DataW Value → Value
  | .held v => v
  | _ => undef
/-- The element at a key. -/
def getI (D : DataW Value) (s : Int) : Option Value := if Maps.has D (.int .i64 s) = true then some (unheldI (D.atKey (.int .i64 s) .nil)) else none
/-- Block b is a map of at most n entries that holds D. -/
def MapI (P : Program) (k : TypeId) (w : World) (b n : Nat) (D : DataW Value) : Prop := w.ownsMap P k anyI b n D
section
variable {P : Program} {k : TypeId} {w : World} {b n : Nat} {D : DataW Value}
theorem keyI (hk : P.underlying k = some (.int .i64)) (s : Int) (hs : (Lit.int .i64 s).wf = true) : keyOf P k (.int .i64 s) = some (.int .i64 s) := Maps.keyOf_int_mk hk hs
theorem keyI_inv (hk : P.underlying k = some (.int .i64)) {key : Value} {kl : Lit} (h : keyOf P k key = some kl) : ∃ s : Int, key = .int .i64 s ∧ kl = .int .i64 s ∧ (Lit.int .i64 s).wf = true := by
  cases key <;> simp [keyOf, hk, mapKey] at h
  rename_i q a
  obtain ⟨⟨rfl, hw⟩, rfl⟩ := h
  exact ⟨a, rfl, rfl, hw⟩
theorem wf_i64 {s : Int} (h1 : -9223372036854775808 ≤ s) (h2 : s ≤ 9223372036854775807) : (Lit.int .i64 s).wf = true := by
  have e1 : IntKind.i64.min = -9223372036854775808 := by decide
  have e2 : IntKind.i64.max = 9223372036854775807 := by decide
  simp only [Lit.wf, e1, e2, Bool.and_eq_true, decide_eq_true_eq]
  exact ⟨h1, h2⟩
theorem lit_keyI (s : Int) : WideAt.IsKeyLit (.int .i64 s) := by
  first | exact ⟨_, rfl⟩ | trivial | (unfold WideAt.IsKeyLit; simp) | decide
theorem getI_empty (s : Int) : getI (.map []) s = none := by
  unfold getI; rw [if_neg (by simp [Maps.has])]
theorem getI_put (hD : Maps.IsMap D) (s : Int) (v : Value) : getI (D.put (.int .i64 s) (.held v)) s = some v := by
  unfold getI
  rw [if_pos (Maps.has_put_same hD (lit_keyI s) _), Maps.atKey_put_same hD (lit_keyI s)]
  rfl
theorem getI_put_other (s t : Int) (h : t ≠ s) (d : DataW Value) : getI (D.put (.int .i64 s) d) t = getI D t := by
  have hne : (Lit.int .i64 t) ≠ Lit.int .i64 s := fun e => h (by injection e)
  unfold getI
  rw [Maps.has_put_other hne, Maps.atKey_put_other hne]
theorem mapI_made (P : Program) (k : TypeId) (w : World) : MapI P k (w.alloc (.map #[] 0)) w.heap.size 0 (.map []) := World.ownsMap_made w P k anyI
theorem MapI.isMap (h : MapI P k w b n D) : Maps.IsMap D := World.ownsMap.isMap h
theorem MapI.lt (h : MapI P k w b n D) : b < w.heap.size := World.ownsMap.lt h
theorem MapI.mono (h : MapI P k w b n D) {m : Nat} (hm : n ≤ m) : MapI P k w b m D := World.ownsMap.mono h hm
theorem MapI.keeps {F : List Nat} {w' : World} (h : MapI P k w b n D) (hk : Keeps F w w') (hb : b ∉ F) : MapI P k w' b n D := by
  obtain ⟨es, clock, hbl, r⟩ := h
  exact ⟨es, clock, hk.block hbl hb, r⟩
theorem MapI.below {w' : World} (h : MapI P k w b n D) (hb : Below w.heap.size w w') : MapI P k w' b n D := h.keeps (F := []) (Keeps.below hb) (by simp)
/-- 'm[k]', 'v, ok := m[k]'. -/
theorem MapI.look {t e : TypeId} {z : Value} (c : Bool) (h : MapI P k w b n D) (hk : P.underlying k = some (.int .i64)) (ht : P.underlying t = some (.map k e)) (hz : (zeroValue e).run P w = .ok z w) (s : Int) (hs : (Lit.int .i64 s).wf = true) :
    (Instr.lookup t (.map (some b)) (.int .i64 s) c).run P w = .ok (if c then .tuple #[(getI D s).getD z, .bool (getI D s).isSome] else (getI D s).getD z) w := by
  obtain ⟨es, clock, hb, F, _, rfl⟩ := h
  rcases Maps.fit_look c (Maps.int_keyed hk) ht hz hb F (keyI hk s hs) with ⟨hrun, _, hat⟩ | ⟨e0, y, _, _, hrun, hRv, hat, _⟩
  · have hh : getI (DataW.map ((es.toList.map (WideElems.rg P k anyI)).foldr DataW.insert [])) s = none := by
      unfold getI; rw [if_neg (by rw [Maps.has_false_of_atKey hat]; simp)]
    rw [hrun, hh]
    cases c <;> rfl
  · have hy : y = (.held e0.val, []) := (Option.some.inj hRv).symm
    subst hy
    have hh : getI (DataW.map ((es.toList.map (WideElems.rg P k anyI)).foldr DataW.insert [])) s = some e0.val := by
      unfold getI; rw [if_pos (Maps.has_true_of_atKey hat), hat]; rfl
    rw [hrun, hh]
    cases c <;> rfl
end
section
variable {P : Program} (w : World) {ops : Array Oper} {rest : List Oper} {o : Oper} {a : Act} {Q : Exit → Act → World → Prop}
/-- .. at the operation. -/
theorem wpList_lookI (hg : o.guard = none) (m x : Operand) (t : TypeId) (c : Bool) (hop : o.op = Op.lookup t m x c)
    (k e : TypeId) (hk : P.underlying k = some (.int .i64)) (ht : P.underlying t = some (.map k e)) (z : Value) (hz : (zeroValue e).run P w = .ok z w) (b n : Nat) (D : DataW Value)
    (hm : a.eval m = .map (some b)) (hown : MapI P k w b n D) (s : Int) (hx : a.eval x = .int .i64 s) (hs : (Lit.int .i64 s).wf = true)
    (hK : wpList P ops Q rest (a.put o.dst (if c then .tuple #[(getI D s).getD z, .bool (getI D s).isSome] else (getI D s).getD z)) w) :
    wpList P ops Q (o :: rest) a w := by
  refine wpList_plain hg fun K' hK' => ?_
  have hrun := hown.look c hk ht hz s hs
  unfold Oper.wp
  simp only [execOp, hop, hm, hx, hrun, Result.andThen_ok, Sem.run_bind, Sem.run_pure]
  exact hK' _ _ hK
/-- 'm[k] = v' at the operation. -/
theorem wpList_storeI (hg : o.guard = none) (m x v : Operand) (t : TypeId) (hop : o.op = Op.mapUpdate t m x v)
    (k e : TypeId) (hk : P.underlying k = some (.int .i64)) (ht : P.underlying t = some (.map k e)) (b n : Nat) (D : DataW Value)
    (hm : a.eval m = .map (some b)) (hown : MapI P k w b n D) (hn : n < maxLen) (s : Int) (val : Value) (hx : a.eval x = .int .i64 s) (hv : a.eval v = val) (hs : (Lit.int .i64 s).wf = true)
    (hK : ∀ w', MapI P k w' b (n + 1) (D.put (.int .i64 s) (.held val)) → w.grownBy w' (some b) → wpList P ops Q rest (a.put o.dst undef) w') :
    wpList P ops Q (o :: rest) a w :=
  wpList_mapUpdate_own w hg m x v t hop k e (Maps.int_keyed hk) ht anyI b n D hm hown hn (.int .i64 s) val (.int .i64 s) hx hv (keyI hk s hs) (.held val) [] rfl hK
/-- 'len(m)' at the operation: see the library's wpList_len_own. The step of a range. -/
theorem wpList_next_i (hg : o.guard = none) (it : Operand) (hop : o.op = Op.next it false) (k : TypeId) (hk : P.underlying k = some (.int .i64)) (b r n : Nat) (D : DataW Value) (left : Lit → Bool) (cnt : Nat)
    (hit : a.eval it = .pointer (some ⟨r, 0, none⟩)) (h : w.ranges P k anyI b r n D left cnt)
    (hDone : cnt = 0 → (∀ kl, left kl = false) → wpList P ops Q rest (a.put o.dst (.tuple #[.bool false])) w)
    (hMore : ∀ (s : Int) (c : Value) (w' : World) (cnt' : Nat), (Lit.int .i64 s).wf = true → left (.int .i64 s) = true → getI D s = some c → w'.ranges P k anyI b r n D (fun z => left z && !z.sameKey (.int .i64 s)) cnt' → cnt' < cnt →
      w.grownBy w' (some r) → w'.heap.size = w.heap.size → (Instr.entry (.pointer (some ⟨r, 0, none⟩))).run P w' = .ok (.tuple #[.int .i64 s, c]) w' → wpList P ops Q rest (a.put o.dst (.tuple #[.bool true, .int .i64 s, c])) w') :
    wpList P ops Q (o :: rest) a w :=
  wpList_next_ranges w hg it hop k (Maps.int_keyed hk) anyI (fun s : Int => .int .i64 s) (fun c : Value => c) (fun key kl hkey => by obtain ⟨s, h1, _⟩ := keyI_inv hk hkey; exact ⟨s, h1⟩) (fun v y hv => ⟨v, rfl⟩)
    b r n D left cnt hit h hDone (fun s c kl y w' cnt' hkey hlk hv hat hrg hlt hgr hsz hen => by
      obtain ⟨s', e, rfl, hsl⟩ := keyI_inv hk hkey
      obtain rfl : s = s' := by injection e
      have hy : y = (.held c, []) := (Option.some.inj hv).symm
      subst hy
      exact hMore s c w' cnt' hsl hlk (by unfold getI; rw [if_pos (Maps.has_true_of_atKey hat), hat]; rfl) hrg hlt hgr hsz hen)
/-- The same, in a region that draws its order. -/
theorem step_lookI {K : Act → World → Prop} {E : Prop} (hg : o.guard = none) (m x : Operand) (t : TypeId) (c : Bool) (hop : o.op = Op.lookup t m x c)
    (k e : TypeId) (hk : P.underlying k = some (.int .i64)) (ht : P.underlying t = some (.map k e)) (z : Value) (hz : (zeroValue e).run P w = .ok z w) (b n : Nat) (D : DataW Value)
    (hm : a.eval m = .map (some b)) (hown : MapI P k w b n D) (s : Int) (hx : a.eval x = .int .i64 s) (hs : (Lit.int .i64 s).wf = true)
    (hK : K (a.put o.dst (if c then .tuple #[(getI D s).getD z, .bool (getI D s).isSome] else (getI D s).getD z)) w) :
    if Region.wanted o (yielded ops a.tmps) = true then Oper.wp P o a w K Q else E := by
  rw [if_pos (show Region.wanted o (yielded ops a.tmps) = true by simp [Region.wanted, hg])]
  have hrun := hown.look c hk ht hz s hs
  unfold Oper.wp
  simp only [execOp, hop, hm, hx, hrun, Result.andThen_ok, Sem.run_bind, Sem.run_pure]
  exact hK
theorem step_storeI {K : Act → World → Prop} {E : Prop} (hg : o.guard = none) (m x v : Operand) (t : TypeId) (hop : o.op = Op.mapUpdate t m x v)
    (k e : TypeId) (hk : P.underlying k = some (.int .i64)) (ht : P.underlying t = some (.map k e)) (b n : Nat) (D : DataW Value)
    (hm : a.eval m = .map (some b)) (hown : MapI P k w b n D) (hn : n < maxLen) (s : Int) (val : Value) (hx : a.eval x = .int .i64 s) (hv : a.eval v = val) (hs : (Lit.int .i64 s).wf = true)
    (hK : ∀ w', MapI P k w' b (n + 1) (D.put (.int .i64 s) (.held val)) → w.grownBy w' (some b) → K (a.put o.dst undef) w') :
    if Region.wanted o (yielded ops a.tmps) = true then Oper.wp P o a w K Q else E := by
  rw [if_pos (show Region.wanted o (yielded ops a.tmps) = true by simp [Region.wanted, hg])]
  obtain ⟨w', hrun, r1, r2⟩ := World.ownsMap.update hown (Maps.int_keyed hk) ht hn (keyI hk s hs) (d := .held val) (ps := []) rfl
  unfold Oper.wp
  simp only [execOp, hop, hm, hx, hv, hrun, Result.andThen_ok, Sem.run_bind, Sem.run_pure]
  exact hK w' r1 r2
/-- A look-up at the operation itself. -/
theorem wp_lookI {K : Act → World → Prop} (m x : Operand) (t : TypeId) (c : Bool) (hop : o.op = Op.lookup t m x c)
    (k e : TypeId) (hk : P.underlying k = some (.int .i64)) (ht : P.underlying t = some (.map k e)) (z : Value) (hz : (zeroValue e).run P w = .ok z w) (b n : Nat) (D : DataW Value)
    (hm : a.eval m = .map (some b)) (hown : MapI P k w b n D) (s : Int) (hx : a.eval x = .int .i64 s) (hs : (Lit.int .i64 s).wf = true)
    (hK : K (a.put o.dst (if c then .tuple #[(getI D s).getD z, .bool (getI D s).isSome] else (getI D s).getD z)) w) : Oper.wp P o a w K Q := by
  have hrun := hown.look c hk ht hz s hs
  unfold Oper.wp
  simp only [execOp, hop, hm, hx, hrun, Result.andThen_ok, Sem.run_bind, Sem.run_pure]
  exact hK
/-- 'range m' at the operation itself. -/
theorem wp_rangeI {K : Act → World → Prop} (m : Operand) (t : TypeId) (hop : o.op = Op.range t m)
    (k e : TypeId) (hk : P.underlying k = some (.int .i64)) (ht : P.underlying t = some (.map k e)) (b n : Nat) (D : DataW Value)
    (hm : a.eval m = .map (some b)) (hown : MapI P k w b n D)
    (hK : ∀ w', w'.ranges P k anyI b w.heap.size n D (Maps.has D) (Maps.size D) → w.grownBy w' none → w'.heap.size = w.heap.size + 1 → K (a.put o.dst (.pointer (some ⟨w.heap.size, 0, none⟩))) w') : Oper.wp P o a w K Q := by
  obtain ⟨w', hrun, r1, r2, r3⟩ := World.ownsMap.range hown (Maps.int_keyed hk) ht
  unfold Oper.wp
  simp only [execOp, hop, hm, hrun, Result.andThen_ok, Sem.run_bind, Sem.run_pure]
  exact hK w' r1 r2 r3
/-- .. at the operation itself. -/
theorem wp_storeI {K : Act → World → Prop} (m x v : Operand) (t : TypeId) (hop : o.op = Op.mapUpdate t m x v)
    (k e : TypeId) (hk : P.underlying k = some (.int .i64)) (ht : P.underlying t = some (.map k e)) (b n : Nat) (D : DataW Value)
    (hm : a.eval m = .map (some b)) (hown : MapI P k w b n D) (hn : n < maxLen) (s : Int) (val : Value) (hx : a.eval x = .int .i64 s) (hv : a.eval v = val) (hs : (Lit.int .i64 s).wf = true)
    (hK : ∀ w', MapI P k w' b (n + 1) (D.put (.int .i64 s) (.held val)) → w.grownBy w' (some b) → K (a.put o.dst undef) w') : Oper.wp P o a w K Q := by
  obtain ⟨w', hrun, r1, r2⟩ := World.ownsMap.update hown (Maps.int_keyed hk) ht hn (keyI hk s hs) (d := .held val) (ps := []) rfl
  unfold Oper.wp
  simp only [execOp, hop, hm, hx, hv, hrun, Result.andThen_ok, Sem.run_bind, Sem.run_pure]
  exact hK w' r1 r2
theorem step_rangeI {K : Act → World → Prop} {E : Prop} (hg : o.guard = none) (m : Operand) (t : TypeId) (hop : o.op = Op.range t m)
    (k e : TypeId) (hk : P.underlying k = some (.int .i64)) (ht : P.underlying t = some (.map k e)) (b n : Nat) (D : DataW Value)
    (hm : a.eval m = .map (some b)) (hown : MapI P k w b n D)
    (hK : ∀ w', w'.ranges P k anyI b w.heap.size n D (Maps.has D) (Maps.size D) → w.grownBy w' none → w'.heap.size = w.heap.size + 1 → K (a.put o.dst (.pointer (some ⟨w.heap.size, 0, none⟩))) w') :
    if Region.wanted o (yielded ops a.tmps) = true then Oper.wp P o a w K Q else E := by
  rw [if_pos (show Region.wanted o (yielded ops a.tmps) = true by simp [Region.wanted, hg])]
  obtain ⟨w', hrun, r1, r2, r3⟩ := World.ownsMap.range hown (Maps.int_keyed hk) ht
  unfold Oper.wp
  simp only [execOp, hop, hm, hrun, Result.andThen_ok, Sem.run_bind, Sem.run_pure]
  exact hK w' r1 r2 r3
/-- 'clear(m)'. -/
theorem MapI.clear {P : Program} {k e t : TypeId} {w : World} {b n : Nat} {D : DataW Value} (h : MapI P k w b n D) (ht : P.underlying t = some (.map k e)) (ty : TypeId) :
    ∃ w', (Builtin.clear_ #[t] ty #[.map (some b)]).run P w = .ok (.tuple #[]) w' ∧ MapI P k w' b 0 (.map []) ∧ w.grownBy w' (some b) := by
  obtain ⟨es, clock, hb, F, hs, rfl⟩ := h
  refine ⟨setBlock w b (.map #[] clock), ?_, ⟨#[], clock, heap_setBlock_same hb _, ⟨by simp, MapKept.stamped_empty clock, by simp⟩, Nat.le_refl _, rfl⟩, ⟨rfl, rfl, rfl, by simp [setBlock], fun i _ hi => heap_setBlock_other hb _ (fun e => hi (by rw [e]))⟩⟩
  simp [Builtin.clear_, run_underlying ht, MapKept.run_getObj_map hb, MapKept.run_setObj_map _ hb, Result.andThen, setBlock]
theorem has_getI {D : DataW Value} (s : Int) : Maps.has D (.int .i64 s) = (getI D s).isSome := by
  unfold getI; split <;> simp_all
theorem sameI (s t : Int) : (Lit.int .i64 s).sameKey (.int .i64 t) = decide (s = t) := by
  by_cases h : s = t
  · subst h; rw [WideAt.sameKey_self (lit_keyI s)]; simp
  · rw [Maps.sameKey_ne (fun e => h (by injection e))]; simp [h]
end
end Go.Proofs.Ytndmndchbfmppaa
