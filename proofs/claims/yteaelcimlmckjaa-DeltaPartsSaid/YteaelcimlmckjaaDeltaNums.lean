/-
  Layer 3 (delta): a slice of 64-bit numbers that the call builds itself.
-/
import Derived.Test.YteaelcimlmckjaaRiceCosts
import Derived.Test.YteaelcimlmckjaaMem
import Derived.Deep.Onto
namespace Go.Proofs.Yteaelcimlmckjaa
open Go.RowKit Go.Deep
set_option linter.unusedVariables false

theorem u64_info : (Try.prog.info? 43).map (fun i => (i.zero, i.size, i.bytes)) = some (some (.int .u64 0), 1, 8) := by kernel_rfl
def natV (n : Nat) : Value := .int .u64 (n : Int)
/-- A slice of the call's own that has the numbers xs. -/
def HasU (B : Nat) (v : Value) (xs : List Nat) (w : World) : Prop := (∃ g cap, v = .slice (some ⟨g, 0, none⟩) xs.length cap) ∧ w.ownsRow B 43 1 v xs.length (xs.map natV)
/-- Behind an append. -/
theorem HasU.of {B : Nat} {v : Value} {xs : List Nat} {n : Nat} {vs : List Value} {w : World} (h : w.ownsRow B 43 1 v n vs) (hn : n = xs.length) (hx : vs = xs.map natV) (hne : ¬ v = .slice none 0 0) : HasU B v xs w := by
  subst hn hx
  refine ⟨?_, h⟩
  rcases h.2 with ⟨e, _⟩ | ⟨g, cap, _, e, _⟩
  · exact absurd e hne
  · exact ⟨g, cap, e⟩
theorem natV_cell {xs : List Nat} : ∀ u ∈ xs.map natV, u.oneCell' = true := by
  intro u hu
  obtain ⟨b, _, rfl⟩ := List.mem_map.1 hu
  rfl
theorem HasU.empty (w : World) (B : Nat) (hB : B ≤ w.heap.size) : HasU B (.slice (some ⟨w.heap.size, 0, none⟩) 0 0) [] (w.alloc (.cells #[] 43)) :=
  ⟨⟨_, _, rfl⟩, (World.ownsRow_made w #[] 0 (Nat.le_refl _) (by unfold maxLen; omega) rfl).mono hB⟩
theorem HasU.alloc {B : Nat} {v : Value} {xs : List Nat} {w : World} (h : HasU B v xs w) (o : Obj) : HasU B v xs (w.alloc o) := ⟨h.1, h.2.alloc o⟩
theorem HasU.keeps {B : Nat} {v : Value} {xs : List Nat} {F : List Nat} {w w' : World} (h : HasU B v xs w) (hk : Keeps F w w') (hF : ∀ k, v.ownBlock = some k → k ∉ F) : HasU B v xs w' := ⟨h.1, hk.row h.2 hF⟩
theorem HasU.drew {B : Nat} {v : Value} {xs : List Nat} {w : World} (h : HasU B v xs w) : HasU B v xs w.drew := h
theorem HasU.at {B : Nat} {v : Value} {xs : List Nat} {w : World} (h : HasU B v xs w) (hx : ∀ x ∈ xs, x < 18446744073709551616) :
    ∃ g cap, v = .slice (some ⟨g, 0, none⟩) xs.length cap ∧ B ≤ g ∧ UAt w (some ⟨g, 0, none⟩) xs.length xs := by
  obtain ⟨⟨g, cap, rfl⟩, hown⟩ := h
  have hl := hown.lt g rfl
  have hc := hown.cells (g := g) rfl
  refine ⟨g, cap, rfl, hl.1, rfl, fun i hi => ⟨hx _ (List.getElem_mem hi), _, rfl, hl.2, ?_⟩⟩
  have := hc i (natV xs[i]) (by rw [List.getElem?_map, List.getElem?_eq_getElem hi]; rfl)
  exact this
/-- step_app, where the operation stands alone. -/
theorem step_app_wp {P : Program} {w : World} {o : Oper} {a : Act} {K : Act → World → Prop} {Q : Exit → Act → World → Prop} (hgd : o.guard = none) (s x : Operand) (t : TypeId)
    (ho : o.op = .call { callee := .builtin .append, args := #[s, x], argTypes := #[t, t] })
    (base : Nat) (e : TypeId) (i : TypeInfo) (z : Value) (size bytes : Nat) (ht : P.underlying t = some (.slice e)) (hi : P.info? e = some i) (hz : i.zero = some z)
    (hsize : i.size = size) (hby : i.bytes = bytes) (hzs : z.cells.size = size) (hsz : 0 < size)
    (v : Value) (n : Nat) (xs : List Value) (hs : a.eval s = v) (hown : w.ownsRow base e size v n xs)
    (ad : Addr) (m c : Nat) (news : List Value) (hx : a.eval x = .slice (some ad) m c) (hl : news.length = m * size) (hnews : ∀ j u, news[j]? = some u → w.cell? (ad.add j) = some u) (h1 : ∀ u ∈ news, u.oneCell' = true)
    (h63 : n + m ≤ maxLen) (hbytes : (n + m) * bytes ≤ 140737488355328) (hbase : base ≤ w.heap.size)
    (h : ∀ A cap w', w'.ownsRow base e size (.slice A (n + m) cap) (n + m) (xs ++ news) → w.grownBy w' v.ownBlock → (Value.ownBlock (.slice A (n + m) cap) = v.ownBlock ∨ Value.ownBlock (.slice A (n + m) cap) = some w.heap.size) → K (a.put o.dst (.slice A (n + m) cap)) w') :
    Oper.wp P o a w K Q := by
  have h' := step_app (ops := #[]) (Q := Q) (E := True) hgd s x t ho base e i z size bytes ht hi hz hsize hby hzs hsz v n xs hs hown ad m c news hx hl hnews h1 h63 hbytes hbase h
  rwa [if_pos (show Region.wanted o (yielded #[] a.tmps) = true by simp [Region.wanted, hgd])] at h'
end Go.Proofs.Yteaelcimlmckjaa
