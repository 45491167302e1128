/-
  Layer 9 (block): the document's disk in memory.
-/
import Derived.Test.YtndmndchbfmppaaBlockPure
import Derived.Test.YtndmndchbfmppaaTsMem
import Derived.Lib.MinMax
namespace Go.Proofs.Ytndmndchbfmppaa
open Go.RowKit Go.Deep
set_option linter.unusedVariables false
set_option linter.unusedSimpArgs false
theorem rowIs_keeps {F : List Nat} {w w' : World} {b : Nat} {t : TypeId} {n : Nat} {f : Nat → Value} (h : w.rowIs b t n f) (hk : Keeps F w w') (hb : b ∉ F) : w'.rowIs b t n f := h.of_block (hk.same b h.lt hb)
/-- A row of texts in a block of F, or none at all. -/
def WaitAt (F : List Nat) (w : World) (v : Value) (l : List Byts) : Prop := ∃ A cap, v = .slice A l.length cap ∧ TsAt w A l.length cap l ∧ ∀ ad, A = some ad → ad.block ∈ F
theorem TsAt.blocks {w w' : World} {A : Option Addr} {len cap : Nat} {l : List Byts} (h : TsAt w A len cap l) (hk : ∀ ad, A = some ad → ad.block < w.heap.size → w'.heap[ad.block]? = w.heap[ad.block]?) (hs : w.heap.size ≤ w'.heap.size) : TsAt w' A len cap l :=
  ⟨h.1, h.2.1, fun i hi => by
    obtain ⟨h1, ad, rfl, h2, h3⟩ := h.2.2 i hi
    have hb : (ad.add i).block = ad.block := by unfold Addr.add; split <;> rfl
    rw [hb] at h2
    refine ⟨h1, ad, rfl, by rw [hb]; omega, ?_⟩
    rw [World.cell?_of_block (w := w) (w' := w') (a := ad.add i) (by rw [hb]; exact hk ad rfl h2)]
    exact h3⟩
theorem TsAt.keeps {G : List Nat} {w w' : World} {A : Option Addr} {len cap : Nat} {l : List Byts} (h : TsAt w A len cap l) (hk : Keeps G w w') (hA : ∀ ad, A = some ad → ad.block ∉ G) : TsAt w' A len cap l :=
  h.blocks (fun ad e hlt => hk.same _ hlt (hA ad e)) hk.size
theorem WaitAt.keeps {F G : List Nat} {w w' : World} {v : Value} {l : List Byts} (h : WaitAt F w v l) (hk : Keeps G w w') (hd : ∀ k ∈ F, k ∉ G) : WaitAt F w' v l := by
  obtain ⟨A, cap, e, h1, h2⟩ := h
  exact ⟨A, cap, e, h1.keeps hk (fun ad e => hd _ (h2 ad e)), h2⟩
theorem WaitAt.more {F G : List Nat} {w : World} {v : Value} {l : List Byts} (h : WaitAt F w v l) (hF : ∀ k ∈ F, k ∈ G) : WaitAt G w v l := by
  obtain ⟨A, cap, e, h1, h2⟩ := h
  exact ⟨A, cap, e, h1, fun ad e => hF _ (h2 ad e)⟩
theorem WaitAt.nil (F : List Nat) (w : World) : WaitAt F w (.slice none 0 0) [] := ⟨none, 0, rfl, TsAt.nil _ _ _, fun ad e => by cases e⟩
/-- The document's disk at q: its cells, its two rows, the waiting rows. -/
def BodyR (F R : List Nat) (q bi bw : Nat) (wv : Nat → Value) (S : DSt) (w : World) : Prop :=
  w.heap[q]? = some (.cells #[.slice (some ⟨bi, 0, none⟩) S.n S.n, .slice (some ⟨bw, 0, none⟩) S.n S.n, .bool S.gone, .int .i64 (S.left : Int), .int .u64 (S.keep : Int), .int .i64 (S.calls : Int)] 33 (0, 0)) ∧
    w.rowIs bi 9 S.n (fun j => .string (str (S.is j))) ∧ w.rowIs bw 29 S.n wv ∧ q ∈ F ∧ bi ∈ F ∧ bw ∈ F ∧ (∀ k ∈ R, k ∈ F ∧ k ≠ q ∧ k ≠ bi ∧ k ≠ bw) ∧ q ≠ bi ∧ q ≠ bw ∧ bi ≠ bw ∧
    ∀ j, j < S.n → WaitAt R w (wv j) (S.wt j)
/-- F: its blocks. -/
structure IsR (F : List Nat) (q : Nat) (S : DSt) (w : World) : Prop where
  lt : ∀ k ∈ F, k < w.heap.size
  n1 : 8 ≤ S.n
  n2 : S.n ≤ 512
  rl : S.left ≤ 9223372036854775807
  rk : S.keep < 18446744073709551616
  ex : ∃ (bi bw : Nat) (R : List Nat) (wv : Nat → Value), BodyR F R q bi bw wv S w
theorem IsR.keeps {F G : List Nat} {q : Nat} {S : DSt} {w w' : World} (h : IsR F q S w) (hk : Keeps G w w') (hd : ∀ k ∈ F, k ∉ G) : IsR F q S w' := by
  obtain ⟨bi, bw, R, wv, h1, h2, h3, h4, h5, h6, h7, h8, h9, h10, h11⟩ := h.ex
  exact ⟨fun k hF => Nat.lt_of_lt_of_le (h.lt k hF) hk.size, h.n1, h.n2, h.rl, h.rk, bi, bw, R, wv, hk.block h1 (hd _ h4), rowIs_keeps h2 hk (hd _ h5), rowIs_keeps h3 hk (hd _ h6), h4, h5, h6, h7, h8, h9, h10,
    fun j hj => (h11 j hj).keeps hk (fun k hkR => hd _ (h7 k hkR).1)⟩
theorem IsR.below {F : List Nat} {q : Nat} {S : DSt} {w w' : World} (h : IsR F q S w) (hb : Below w.heap.size w w') : IsR F q S w' := h.keeps (G := []) (Keeps.below hb) (by simp)
theorem IsR.drewN {F : List Nat} {q : Nat} {S : DSt} {w : World} (h : IsR F q S w) (n : Nat) : IsR F q S (w.drewN n) := h.keeps (G := []) ((Keeps.refl _ w).drewN n) (by simp)
/-- A waiting row that is another one, of new cells. -/
theorem IsR.put {F R : List Nat} {q bi bw : Nat} {wv : Nat → Value} {S : DSt} {w w4 w5 : World} (h : IsR F q S w) (hx : BodyR F R q bi bw wv S w) (hb : Below w.heap.size w w4) {ad : Addr} {cap i len : Nat} {l : List Byts} (hlen : len = l.length) (hi : i < S.n) (hT : TsAt w4 (some ad) l.length cap l) (hT2 : ad.block < w4.heap.size) (had : w.heap.size ≤ ad.block)
    (hw5 : w5.heap = (w4.setCell ⟨bw, i, none⟩ (.slice (some ad) len cap)).heap) : IsR (ad.block :: F) q { S with wt := updW S.wt i l } w5 := by
  subst hlen
  obtain ⟨h1, h2, h3, h4, h5, h6, h7, h8, h9, h10, h11⟩ := hx
  have hne : ∀ k ∈ F, k ≠ ad.block := fun k hk e => by have := h.lt k hk; omega
  have hK : Keeps [bw] w (w4.setCell ⟨bw, i, none⟩ (.slice (some ad) l.length cap)) := (Keeps.below (F := [bw]) hb).setCell (.inl (by simp)) _
  have hsz : (w4.setCell ⟨bw, i, none⟩ (.slice (some ad) l.length cap)).heap.size = w4.heap.size := by simp [World.setCell]
  have hT5 : TsAt (w4.setCell ⟨bw, i, none⟩ (.slice (some ad) l.length cap)) (some ad) l.length cap l := hT.keeps (G := [bw]) ((Keeps.refl [bw] w4).setCell (.inl (by simp)) _) (fun a e => by injection e with e; subst e; simp; exact fun e => hne _ h6 e.symm)
  have main : IsR (ad.block :: F) q { S with wt := updW S.wt i l } (w4.setCell ⟨bw, i, none⟩ (.slice (some ad) l.length cap)) := by
    refine ⟨fun k hk => ?_, h.n1, h.n2, h.rl, h.rk, bi, bw, ad.block :: R, fun j => if j = i then .slice (some ad) l.length cap else wv j, ?_, ?_, ?_, by simp [h4], by simp [h5], by simp [h6], fun k hk => ?_, h8, h9, h10, fun j hj => ?_⟩
    · rw [hsz]
      rcases List.mem_cons.1 hk with rfl | hk
      · exact hT2
      · exact Nat.lt_of_lt_of_le (h.lt k hk) hb.size
    · exact hK.block h1 (by simpa using h9)
    · exact rowIs_keeps h2 hK (by simpa using h10)
    · exact (rowIs_keeps h3 (Keeps.below (F := []) hb) (by simp)).set i _
    · rcases List.mem_cons.1 hk with rfl | hk
      · exact ⟨by simp, fun e => hne _ h4 e.symm, fun e => hne _ h5 e.symm, fun e => hne _ h6 e.symm⟩
      · exact ⟨by simp [(h7 k hk).1], (h7 k hk).2⟩
    · by_cases e : j = i
      · subst e
        simp only [if_true, updW]
        exact ⟨some ad, cap, rfl, hT5, fun a e => by injection e with e; subst e; simp⟩
      · simp only [if_neg e, updW]
        exact ((h11 j hj).keeps hK (fun k hk => by simpa using (h7 k hk).2.2.2)).more (fun k hk => by simp [hk])
  obtain ⟨m1, m2, m3, m4, m5, bi', bw', R', wv', k1, k2, k3, k4, k5, k6, k7, k8, k9, k10, k11⟩ := main
  refine ⟨fun k hk => by rw [hw5]; exact m1 k hk, m2, m3, m4, m5, bi', bw', R', wv', by rw [hw5]; exact k1, k2.of_block (by rw [hw5]), k3.of_block (by rw [hw5]), k4, k5, k6, k7, k8, k9, k10, fun j hj => ?_⟩
  obtain ⟨A, c, e, t1, t2⟩ := k11 j hj
  exact ⟨A, c, e, t1.blocks (fun ad _ _ => by rw [hw5]) (by rw [hw5]; exact Nat.le_refl _), t2⟩
/-- What a call makes of it. -/
def DidR (F : List Nat) (q : Nat) (S : DSt) (w w' : World) : Prop := (∃ F', IsR F' q S w' ∧ ∀ k ∈ F', k ∈ F ∨ w.heap.size ≤ k) ∧ Keeps F w w'
theorem DidR.self {F : List Nat} {q : Nat} {S : DSt} {w : World} (h : IsR F q S w) : DidR F q S w w := ⟨⟨F, h, fun k hk => .inl hk⟩, Keeps.refl _ _⟩
theorem DidR.after {F : List Nat} {q : Nat} {T : DSt} {a b c : World} (h : DidR F q T b c) (hK : Keeps F a b) : DidR F q T a c := by
  obtain ⟨⟨F', h1, h2⟩, h3⟩ := h
  refine ⟨⟨F', h1, fun k hk => ?_⟩, hK.trans h3 (fun g hg => .inl hg)⟩
  rcases h2 k hk with h | h
  · exact .inl h
  · exact .inr (Nat.le_trans hK.size h)
theorem DidR.since {F G : List Nat} {q : Nat} {T : DSt} {a b c : World} (h : DidR G q T b c) (hK : Keeps F a b) (hG : ∀ k ∈ G, k ∈ F ∨ a.heap.size ≤ k) : DidR F q T a c := by
  obtain ⟨⟨F', h1, h2⟩, h3⟩ := h
  refine ⟨⟨F', h1, fun k hk => ?_⟩, hK.trans h3 hG⟩
  rcases h2 k hk with h | h
  · exact hG k h
  · exact .inr (Nat.le_trans hK.size h)
theorem DidR.trans {F : List Nat} {q : Nat} {S T : DSt} {a b c : World} (h : DidR F q S a b) (hk : ∀ F', IsR F' q S b → (∀ k ∈ F', k ∈ F ∨ a.heap.size ≤ k) → DidR F' q T b c) : DidR F q T a c := by
  obtain ⟨⟨F', h1, h2⟩, h3⟩ := h
  obtain ⟨⟨F2, k1, k2⟩, k3⟩ := hk F' h1 h2
  refine ⟨⟨F2, k1, fun k hk => ?_⟩, h3.trans k3 h2⟩
  rcases k2 k hk with h | h
  · exact h2 k h
  · exact .inr (Nat.le_trans h3.size h)
end Go.Proofs.Ytndmndchbfmppaa
