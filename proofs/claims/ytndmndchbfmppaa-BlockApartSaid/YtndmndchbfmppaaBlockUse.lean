/-
  Layer 9 (block): the program's disk and the document's, as the laws use them. A disk that was made since the law began (at w0) is OwnX: nothing that there was has changed with it; X: blocks of the law's own, which it leaves alone (OwnB: none). BothD: both disks.
-/
import Derived.Test.YtndmndchbfmppaaBlockX
namespace Go.Proofs.Ytndmndchbfmppaa
open Go.RowKit Go.Deep
set_option linter.unusedVariables false
set_option linter.unusedSimpArgs false
set_option linter.unusedSectionVars false
/-- These blocks are as they were. -/
def Stay (X : List Nat) (w w' : World) : Prop := ∀ k ∈ X, w'.heap[k]? = w.heap[k]?
theorem Stay.refl (X : List Nat) (w : World) : Stay X w w := fun _ _ => rfl
theorem Stay.trans {X : List Nat} {a b c : World} (h : Stay X a b) (k : Stay X b c) : Stay X a c := fun x hx => (k x hx).trans (h x hx)
theorem Stay.cell {X : List Nat} {w w' : World} (h : Stay X w w') {p : Addr} (hp : p.block ∈ X) : w'.cell? p = w.cell? p := World.cell?_of_block (w := w) (w' := w') (a := p) (h _ hp)
theorem Stay.frozen {X : List Nat} {w w' : World} (h : Stay X w w') {p : Addr} (hp : p.block ∈ X) : w'.frozen? p = w.frozen? p := World.frozen?_of_block (w := w) (w' := w') (a := p) (h _ hp)
theorem Stay.drew {X : List Nat} {w w' : World} (h : Stay X w w') : Stay X w w'.drew := h
/-- The program's disk alone, of blocks since w0. -/
def OwnX (w0 : World) (q : Nat) (S : DSt) (X : List Nat) (w : World) : Prop := ∃ F, IsB F q S w ∧ (∀ k ∈ F, w0.heap.size ≤ k ∧ k ∉ X) ∧ (∀ k ∈ X, k < w.heap.size) ∧ Below w0.heap.size w0 w
abbrev OwnB (w0 : World) (q : Nat) (S : DSt) (w : World) : Prop := OwnX w0 q S [] w
theorem OwnX.bel {w0 : World} {q : Nat} {S : DSt} {X : List Nat} {w : World} (h : OwnX w0 q S X w) : Below w0.heap.size w0 w := by obtain ⟨_, _, _, _, h⟩ := h; exact h
theorem OwnX.below {w0 : World} {q : Nat} {S : DSt} {X : List Nat} {w w' : World} (h : OwnX w0 q S X w) (hb : Below w.heap.size w w') : OwnX w0 q S X w' := by
  obtain ⟨F, h1, h2, h3, h4⟩ := h
  exact ⟨F, h1.keeps (G := []) (Keeps.below hb) (by simp), h2, fun k hk => Nat.lt_of_lt_of_le (h3 k hk) hb.size, below2 h4 hb h4.size⟩
theorem OwnX.drew {w0 : World} {q : Nat} {S : DSt} {X : List Nat} {w : World} (h : OwnX w0 q S X w) : OwnX w0 q S X w.drew := h.below (Below.refl _ w).drew
theorem OwnX.drewN {w0 : World} {q : Nat} {S : DSt} {X : List Nat} {w : World} (h : OwnX w0 q S X w) (n : Nat) : OwnX w0 q S X (w.drewN n) := h.below (below_drewN (Below.refl _ w) n)
/-- The law turns blocks of its own, or makes new ones. -/
theorem OwnX.turned {w0 : World} {q : Nat} {S : DSt} {X Y : List Nat} {w w' : World} (h : OwnX w0 q S X w) (hk : Keeps X w w') (hX : ∀ k ∈ X, w0.heap.size ≤ k) (hY : ∀ k ∈ Y, (k ∈ X ∨ w.heap.size ≤ k) ∧ k < w'.heap.size) : OwnX w0 q S Y w' := by
  obtain ⟨F, h1, h2, h3, h4⟩ := h
  refine ⟨F, h1.keeps hk (fun k hF hX => (h2 k hF).2 hX), fun k hk => ⟨(h2 k hk).1, fun hy => ?_⟩, fun k hk => (hY k hk).2, h4.trans (hk.to h4.size hX)⟩
  rcases (hY k hy).1 with e | e
  · exact (h2 k hk).2 e
  · have := h1.lt k hk; omega
theorem OwnX.did {w0 : World} {q : Nat} {T : DSt} {X : List Nat} {w w' : World} {F : List Nat} (h2 : ∀ k ∈ F, w0.heap.size ≤ k ∧ k ∉ X) (h3 : ∀ k ∈ X, k < w.heap.size) (h4 : Below w0.heap.size w0 w) (hd : DidB F q T w w') : OwnX w0 q T X w' ∧ Stay X w w' := by
  obtain ⟨⟨F', k1, k2⟩, k3⟩ := hd
  refine ⟨⟨F', k1, fun k hk => ?_, fun k hk => Nat.lt_of_lt_of_le (h3 k hk) k3.size, h4.trans (k3.to h4.size (fun k hk => (h2 k hk).1))⟩, fun k hk => k3.same k (h3 k hk) (fun hf => (h2 k hf).2 hk)⟩
  rcases k2 k hk with h | h
  · exact h2 k h
  · exact ⟨Nat.le_trans h4.size h, fun hx => by have := h3 k hx; omega⟩
theorem xNew_c (n : Int) (w0 w : World) (X : List Nat) (hb : Below w0.heap.size w0 w) (hX : ∀ k ∈ X, k < w.heap.size) (h1 : -9223372036854775808 ≤ n) (h2 : n ≤ 9223372036854775807) :
    Calls Try.prog 9 #[.int .i64 n] w fun e w' => ∃ q, e = .returned (.pointer (some ⟨q, 0, none⟩)) ∧ OwnX w0 q (newD n) X w' ∧ Stay X w w' := by
  refine (bNew_c n w h1 h2).mono ?_
  rintro e w' ⟨⟨q, F, rfl, k1, k2⟩, hb2⟩
  exact ⟨q, rfl, ⟨F, k1, fun k hk => ⟨Nat.le_trans hb.size (k2 k hk), fun hx => by have := hX k hx; have := k2 k hk; omega⟩, fun k hk => Nat.lt_of_lt_of_le (hX k hk) hb2.size, below2 hb hb2 hb.size⟩, fun k hk => hb2.block k (hX k hk)⟩
theorem oNew_c (n : Int) (w0 w : World) (hb : Below w0.heap.size w0 w) (h1 : -9223372036854775808 ≤ n) (h2 : n ≤ 9223372036854775807) :
    Calls Try.prog 9 #[.int .i64 n] w fun e w' => ∃ q, e = .returned (.pointer (some ⟨q, 0, none⟩)) ∧ OwnB w0 q (newD n) w' :=
  (xNew_c n w0 w [] hb (by simp) h1 h2).mono fun e w' ⟨q, a, b, _⟩ => ⟨q, a, b⟩
section
variable {w0 : World} {q : Nat} {S : DSt} {X : List Nat} {w : World} (h : OwnX w0 q S X w) (hf : Fit S 900000)
include h hf
theorem xDead_c : Calls Try.prog 13 #[.pointer (some ⟨q, 0, none⟩)] w fun e w' => e = .returned (.bool S.gone) ∧ OwnX w0 q S X w' ∧ Stay X w w' := by
  obtain ⟨F, h1, h2, h3, h4⟩ := h
  exact (bDead_c F q S w h1 hf ).mono fun e w' ⟨a, b⟩ => ⟨a, OwnX.below ⟨F, h1, h2, h3, h4⟩ b, fun k hk => b.block k (h3 k hk)⟩
theorem oDead_c : Calls Try.prog 13 #[.pointer (some ⟨q, 0, none⟩)] w fun e w' => e = .returned (.bool S.gone) ∧ OwnX w0 q S X w' := (xDead_c h hf).mono fun e w' ⟨a, b, _⟩ => ⟨a, b⟩
theorem xCalls_c : Calls Try.prog 14 #[.pointer (some ⟨q, 0, none⟩)] w fun e w' => e = .returned (.int .i64 (S.calls : Int)) ∧ OwnX w0 q S X w' ∧ Stay X w w' := by
  obtain ⟨F, h1, h2, h3, h4⟩ := h
  exact (bCalls_c F q S w h1 hf ).mono fun e w' ⟨a, b⟩ => ⟨a, OwnX.below ⟨F, h1, h2, h3, h4⟩ b, fun k hk => b.block k (h3 k hk)⟩
theorem oCalls_c : Calls Try.prog 14 #[.pointer (some ⟨q, 0, none⟩)] w fun e w' => e = .returned (.int .i64 (S.calls : Int)) ∧ OwnX w0 q S X w' := (xCalls_c h hf).mono fun e w' ⟨a, b, _⟩ => ⟨a, b⟩
theorem xRead_c {i : Int} (k1 : -9223372036854775808 ≤ i) (k2 : i ≤ 9223372036854775807) : Calls Try.prog 17 #[.pointer (some ⟨q, 0, none⟩), .int .i64 i] w fun e w' => e = .returned (.tuple #[.string (str (readD S i).1), .int .i64 (readD S i).2]) ∧ OwnX w0 q S X w' ∧ Stay X w w' := by
  obtain ⟨F, h1, h2, h3, h4⟩ := h
  exact (bRead_c F q S w h1 hf i k1 k2).mono fun e w' ⟨a, b⟩ => ⟨a, OwnX.below ⟨F, h1, h2, h3, h4⟩ b, fun k hk => b.block k (h3 k hk)⟩
theorem oRead_c {i : Int} (k1 : -9223372036854775808 ≤ i) (k2 : i ≤ 9223372036854775807) : Calls Try.prog 17 #[.pointer (some ⟨q, 0, none⟩), .int .i64 i] w fun e w' => e = .returned (.tuple #[.string (str (readD S i).1), .int .i64 (readD S i).2]) ∧ OwnX w0 q S X w' := (xRead_c h hf k1 k2).mono fun e w' ⟨a, b, _⟩ => ⟨a, b⟩
theorem xWrite_c {i : Int} {s : Byts} (k1 : -9223372036854775808 ≤ i) (k2 : i ≤ 9223372036854775807) (k3 : s.length ≤ 9223372036854775807) : Calls Try.prog 19 #[.pointer (some ⟨q, 0, none⟩), .int .i64 i, .string (str s)] w fun e w' => e = .returned (.int .i64 (writeD S i s).1) ∧ OwnX w0 q (writeD S i s).2 X w' ∧ Stay X w w' := by
  obtain ⟨F, h1, h2, h3, h4⟩ := h
  exact (bWrite_c F q S w h1 hf i s k1 k2 k3).mono fun e w' ⟨a, b⟩ => ⟨a, OwnX.did h2 h3 h4 b⟩
theorem oWrite_c {i : Int} {s : Byts} (k1 : -9223372036854775808 ≤ i) (k2 : i ≤ 9223372036854775807) (k3 : s.length ≤ 9223372036854775807) : Calls Try.prog 19 #[.pointer (some ⟨q, 0, none⟩), .int .i64 i, .string (str s)] w fun e w' => e = .returned (.int .i64 (writeD S i s).1) ∧ OwnX w0 q (writeD S i s).2 X w' := (xWrite_c h hf k1 k2 k3).mono fun e w' ⟨a, b, _⟩ => ⟨a, b⟩
theorem xFlush_c : Calls Try.prog 20 #[.pointer (some ⟨q, 0, none⟩)] w fun e w' => e = .returned (.int .i64 (flushD S).1) ∧ OwnX w0 q (flushD S).2 X w' ∧ Stay X w w' := by
  obtain ⟨F, h1, h2, h3, h4⟩ := h
  exact (bFlush_c F q S w h1 hf ).mono fun e w' ⟨a, b⟩ => ⟨a, OwnX.did h2 h3 h4 b⟩
theorem oFlush_c : Calls Try.prog 20 #[.pointer (some ⟨q, 0, none⟩)] w fun e w' => e = .returned (.int .i64 (flushD S).1) ∧ OwnX w0 q (flushD S).2 X w' := (xFlush_c h hf).mono fun e w' ⟨a, b, _⟩ => ⟨a, b⟩
theorem xCut_c {n : Int} {keep : Nat} (k1 : -9223372036854775808 ≤ n) (k2 : n ≤ 9223372036854775807) (k3 : keep < 18446744073709551616) : Calls Try.prog 22 #[.pointer (some ⟨q, 0, none⟩), .int .i64 n, .int .u64 keep] w fun e w' => e = .returned (.tuple #[]) ∧ OwnX w0 q (cutD S n keep) X w' ∧ Stay X w w' := by
  obtain ⟨F, h1, h2, h3, h4⟩ := h
  exact (bCut_c F q S w h1 hf n keep k1 k2 k3).mono fun e w' ⟨a, b⟩ => ⟨a, OwnX.did h2 h3 h4 b⟩
theorem oCut_c {n : Int} {keep : Nat} (k1 : -9223372036854775808 ≤ n) (k2 : n ≤ 9223372036854775807) (k3 : keep < 18446744073709551616) : Calls Try.prog 22 #[.pointer (some ⟨q, 0, none⟩), .int .i64 n, .int .u64 keep] w fun e w' => e = .returned (.tuple #[]) ∧ OwnX w0 q (cutD S n keep) X w' := (xCut_c h hf k1 k2 k3).mono fun e w' ⟨a, b, _⟩ => ⟨a, b⟩
theorem xCrash_c {keep : Nat} (k3 : keep < 18446744073709551616) : Calls Try.prog 21 #[.pointer (some ⟨q, 0, none⟩), .int .u64 keep] w fun e w' => e = .returned (.tuple #[]) ∧ OwnX w0 q (downD S keep) X w' ∧ Stay X w w' := by
  obtain ⟨F, h1, h2, h3, h4⟩ := h
  exact (bCrash_c F q S w h1 hf keep k3).mono fun e w' ⟨a, b⟩ => ⟨a, OwnX.did h2 h3 h4 b⟩
theorem oCrash_c {keep : Nat} (k3 : keep < 18446744073709551616) : Calls Try.prog 21 #[.pointer (some ⟨q, 0, none⟩), .int .u64 keep] w fun e w' => e = .returned (.tuple #[]) ∧ OwnX w0 q (downD S keep) X w' := (xCrash_c h hf k3).mono fun e w' ⟨a, b, _⟩ => ⟨a, b⟩
theorem xPower_c : Calls Try.prog 15 #[.pointer (some ⟨q, 0, none⟩)] w fun e w' => e = .returned (.tuple #[]) ∧ OwnX w0 q (powerD S) X w' ∧ Stay X w w' := by
  obtain ⟨F, h1, h2, h3, h4⟩ := h
  exact (bPower_c F q S w h1 hf ).mono fun e w' ⟨a, b⟩ => ⟨a, OwnX.did h2 h3 h4 b⟩
theorem oPower_c : Calls Try.prog 15 #[.pointer (some ⟨q, 0, none⟩)] w fun e w' => e = .returned (.tuple #[]) ∧ OwnX w0 q (powerD S) X w' := (xPower_c h hf).mono fun e w' ⟨a, b, _⟩ => ⟨a, b⟩
end
/-! both disks: the program's at q in state S, the document's at r in state T -/
def BothD (w0 : World) (q r : Nat) (S T : DSt) (X : List Nat) (w : World) : Prop := ∃ F G, IsB F q S w ∧ IsR G r T w ∧ (∀ k ∈ F, w0.heap.size ≤ k ∧ k ∉ X) ∧ (∀ k ∈ G, w0.heap.size ≤ k ∧ k ∉ X) ∧ (∀ k ∈ F, k ∉ G) ∧ (∀ k ∈ X, k < w.heap.size) ∧ Below w0.heap.size w0 w
theorem BothD.bel {w0 : World} {q r : Nat} {S T : DSt} {X : List Nat} {w : World} (h : BothD w0 q r S T X w) : Below w0.heap.size w0 w := by obtain ⟨_, _, _, _, _, _, _, _, h⟩ := h; exact h
theorem BothD.below {w0 : World} {q r : Nat} {S T : DSt} {X : List Nat} {w w' : World} (h : BothD w0 q r S T X w) (hb : Below w.heap.size w w') : BothD w0 q r S T X w' := by
  obtain ⟨F, G, h1, h2, h3, h4, h5, h6, h7⟩ := h
  exact ⟨F, G, h1.keeps (G := []) (Keeps.below hb) (by simp), h2.below hb, h3, h4, h5, fun k hk => Nat.lt_of_lt_of_le (h6 k hk) hb.size, below2 h7 hb h7.size⟩
theorem BothD.pin {w0 : World} {q r : Nat} {S T : DSt} {X : List Nat} {w w' : World} (h : BothD w0 q r S T X w) (hb : Below w.heap.size w w') {Y : List Nat} (hY : ∀ k ∈ Y, w.heap.size ≤ k ∧ k < w'.heap.size) : BothD w0 q r S T Y w' := by
  obtain ⟨F, G, h1, h2, h3, h4, h5, h6, h7⟩ := h
  exact ⟨F, G, h1.keeps (G := []) (Keeps.below hb) (by simp), h2.below hb, fun k hk => ⟨(h3 k hk).1, fun hy => by have := h1.lt k hk; have := hY k hy; omega⟩, fun k hk => ⟨(h4 k hk).1, fun hy => by have := h2.lt k hk; have := hY k hy; omega⟩, h5, fun k hk => (hY k hk).2, below2 h7 hb h7.size⟩
theorem BothD.drew {w0 : World} {q r : Nat} {S T : DSt} {X : List Nat} {w : World} (h : BothD w0 q r S T X w) : BothD w0 q r S T X w.drew := h.below (Below.refl _ w).drew
theorem BothD.drewN {w0 : World} {q r : Nat} {S T : DSt} {X : List Nat} {w : World} (h : BothD w0 q r S T X w) (n : Nat) : BothD w0 q r S T X (w.drewN n) := h.below (below_drewN (Below.refl _ w) n)
theorem BothD.didB {w0 : World} {q r : Nat} {S T U : DSt} {X : List Nat} {w w' : World} {F G : List Nat} (h1 : IsB F q S w) (h2 : IsR G r T w) (h3 : ∀ k ∈ F, w0.heap.size ≤ k ∧ k ∉ X) (h4 : ∀ k ∈ G, w0.heap.size ≤ k ∧ k ∉ X) (h5 : ∀ k ∈ F, k ∉ G) (h6 : ∀ k ∈ X, k < w.heap.size) (h7 : Below w0.heap.size w0 w) (hd : DidB F q U w w') : BothD w0 q r U T X w' ∧ Stay X w w' := by
  obtain ⟨⟨F', k1, k2⟩, k3⟩ := hd
  refine ⟨⟨F', G, k1, h2.keeps k3 (fun k hk hf => h5 k hf hk), fun k hk => ?_, h4, fun k hk hg => ?_, fun k hk => Nat.lt_of_lt_of_le (h6 k hk) k3.size, h7.trans (k3.to h7.size (fun k hk => (h3 k hk).1))⟩, fun k hk => k3.same k (h6 k hk) (fun hf => (h3 k hf).2 hk)⟩
  · rcases k2 k hk with h | h
    · exact h3 k h
    · exact ⟨Nat.le_trans h7.size h, fun hx => by have := h6 k hx; omega⟩
  · rcases k2 k hk with h | h
    · exact h5 k h hg
    · have := h2.lt k hg; omega
theorem BothD.didR {w0 : World} {q r : Nat} {S T U : DSt} {X : List Nat} {w w' : World} {F G : List Nat} (h1 : IsB F q S w) (h2 : IsR G r T w) (h3 : ∀ k ∈ F, w0.heap.size ≤ k ∧ k ∉ X) (h4 : ∀ k ∈ G, w0.heap.size ≤ k ∧ k ∉ X) (h5 : ∀ k ∈ F, k ∉ G) (h6 : ∀ k ∈ X, k < w.heap.size) (h7 : Below w0.heap.size w0 w) (hd : DidR G r U w w') : BothD w0 q r S U X w' ∧ Stay X w w' := by
  obtain ⟨⟨G', k1, k2⟩, k3⟩ := hd
  refine ⟨⟨F, G', h1.keeps k3 h5, k1, h3, fun k hk => ?_, fun k hk hg => ?_, fun k hk => Nat.lt_of_lt_of_le (h6 k hk) k3.size, h7.trans (k3.to h7.size (fun k hk => (h4 k hk).1))⟩, fun k hk => k3.same k (h6 k hk) (fun hf => (h4 k hf).2 hk)⟩
  · rcases k2 k hk with h | h
    · exact h4 k h
    · exact ⟨Nat.le_trans h7.size h, fun hx => by have := h6 k hx; omega⟩
  · rcases k2 k hg with h | h
    · exact h5 k hk h
    · have := h1.lt k hk; omega
/-- Both are new. -/
theorem BothD.start {w0 : World} {q : Nat} {S T : DSt} {w w' : World} (h : OwnB w0 q S w) (hb : Below w.heap.size w w') {e : Ending} (hm : MadeR T w.heap.size e w') : ∃ r, e = .returned (.pointer (some ⟨r, 0, none⟩)) ∧ BothD w0 q r S T [] w' := by
  obtain ⟨F, h1, h2, h3, h4⟩ := h
  obtain ⟨r, G, rfl, k1, k2⟩ := hm
  exact ⟨r, rfl, F, G, h1.keeps (G := []) (Keeps.below hb) (by simp), k1, fun k hk => ⟨(h2 k hk).1, by simp⟩, fun k hk => ⟨Nat.le_trans h4.size (k2 k hk), by simp⟩, fun k hk hg => by have := h1.lt k hk; have := k2 k hg; omega, by simp, below2 h4 hb h4.size⟩
/-- The document's disk's cells. -/
theorem BothD.cells {w0 : World} {q r : Nat} {S T : DSt} {X : List Nat} {w : World} (h : BothD w0 q r S T X w) : ∃ bi b, r < w.heap.size ∧ w.heap[r]? = some (.cells #[.slice (some ⟨bi, 0, none⟩) T.n T.n, b, .bool T.gone, .int .i64 (T.left : Int), .int .u64 (T.keep : Int), .int .i64 (T.calls : Int)] 33 (0, 0)) := by
  obtain ⟨F, G, h1, h2, _⟩ := h
  obtain ⟨bi, bw, R, wv, hq, _⟩ := h2.ex
  exact ⟨bi, _, lt_of_block hq, hq⟩
section
variable {w0 : World} {q r : Nat} {S T : DSt} {X : List Nat} {w : World} (h : BothD w0 q r S T X w) (hf : Fit S 800000) (hg : Fit T 800000)
include h hf hg
theorem tWriteB {i : Int} {s : Byts} (k1 : -9223372036854775808 ≤ i) (k2 : i ≤ 9223372036854775807) (k3 : s.length ≤ 9223372036854775807) : Calls Try.prog 19 #[.pointer (some ⟨q, 0, none⟩), .int .i64 i, .string (str s)] w fun e w' => e = .returned (.int .i64 (writeD S i s).1) ∧ BothD w0 q r (writeD S i s).2 T X w' ∧ Stay X w w' := by
  obtain ⟨F, G, h1, h2, h3, h4, h5, h6, h7⟩ := h
  exact (bWrite_c F q S w h1 (hf.mono (by omega)) i s k1 k2 k3).mono fun e w' ⟨a, b⟩ => ⟨a, BothD.didB h1 h2 h3 h4 h5 h6 h7 b⟩
theorem tWriteR {i : Int} {s : Byts} (k1 : -9223372036854775808 ≤ i) (k2 : i ≤ 9223372036854775807) (k3 : s.length ≤ 9223372036854775807) : Calls Try.prog 23 #[.pointer (some ⟨r, 0, none⟩), .int .i64 i, .string (str s)] w fun e w' => e = .returned (.int .i64 (writeD T i s).1) ∧ BothD w0 q r S (writeD T i s).2 X w' ∧ Stay X w w' := by
  obtain ⟨F, G, h1, h2, h3, h4, h5, h6, h7⟩ := h
  exact (refWrite_c G r T i s w h2 k1 k2 k3 (by have := hg.1; omega) (fun j _ => by have := hg.2 j; omega)).mono fun e w' ⟨a, b⟩ => ⟨a, BothD.didR h1 h2 h3 h4 h5 h6 h7 b⟩
theorem tFlushB : Calls Try.prog 20 #[.pointer (some ⟨q, 0, none⟩)] w fun e w' => e = .returned (.int .i64 (flushD S).1) ∧ BothD w0 q r (flushD S).2 T X w' ∧ Stay X w w' := by
  obtain ⟨F, G, h1, h2, h3, h4, h5, h6, h7⟩ := h
  exact (bFlush_c F q S w h1 (hf.mono (by omega)) ).mono fun e w' ⟨a, b⟩ => ⟨a, BothD.didB h1 h2 h3 h4 h5 h6 h7 b⟩
theorem tFlushR : Calls Try.prog 24 #[.pointer (some ⟨r, 0, none⟩)] w fun e w' => e = .returned (.int .i64 (flushD T).1) ∧ BothD w0 q r S (flushD T).2 X w' ∧ Stay X w w' := by
  obtain ⟨F, G, h1, h2, h3, h4, h5, h6, h7⟩ := h
  exact (refFlush_c G r T w h2 (by have := hg.1; omega) (fun j _ => by have := hg.2 j; omega)).mono fun e w' ⟨a, b⟩ => ⟨a, BothD.didR h1 h2 h3 h4 h5 h6 h7 b⟩
theorem tCutB {n : Int} {keep : Nat} (k1 : -9223372036854775808 ≤ n) (k2 : n ≤ 9223372036854775807) (k3 : keep < 18446744073709551616) : Calls Try.prog 22 #[.pointer (some ⟨q, 0, none⟩), .int .i64 n, .int .u64 keep] w fun e w' => e = .returned (.tuple #[]) ∧ BothD w0 q r (cutD S n keep) T X w' ∧ Stay X w w' := by
  obtain ⟨F, G, h1, h2, h3, h4, h5, h6, h7⟩ := h
  exact (bCut_c F q S w h1 (hf.mono (by omega)) n keep k1 k2 k3).mono fun e w' ⟨a, b⟩ => ⟨a, BothD.didB h1 h2 h3 h4 h5 h6 h7 b⟩
theorem tCutR {n : Int} {keep : Nat} (k1 : -9223372036854775808 ≤ n) (k2 : n ≤ 9223372036854775807) (k3 : keep < 18446744073709551616) : Calls Try.prog 25 #[.pointer (some ⟨r, 0, none⟩), .int .i64 n, .int .u64 keep] w fun e w' => e = .returned (.tuple #[]) ∧ BothD w0 q r S (cutD T n keep) X w' ∧ Stay X w w' := by
  obtain ⟨F, G, h1, h2, h3, h4, h5, h6, h7⟩ := h
  exact (refCut_c G r T n keep w h2 k1 k2 k3).mono fun e w' ⟨a, b⟩ => ⟨a, BothD.didR h1 h2 h3 h4 h5 h6 h7 b⟩
theorem tCrashB {keep : Nat} (k3 : keep < 18446744073709551616) : Calls Try.prog 21 #[.pointer (some ⟨q, 0, none⟩), .int .u64 keep] w fun e w' => e = .returned (.tuple #[]) ∧ BothD w0 q r (downD S keep) T X w' ∧ Stay X w w' := by
  obtain ⟨F, G, h1, h2, h3, h4, h5, h6, h7⟩ := h
  exact (bCrash_c F q S w h1 (hf.mono (by omega)) keep k3).mono fun e w' ⟨a, b⟩ => ⟨a, BothD.didB h1 h2 h3 h4 h5 h6 h7 b⟩
theorem tCrashR {keep : Nat} (k3 : keep < 18446744073709551616) : Calls Try.prog 26 #[.pointer (some ⟨r, 0, none⟩), .int .u64 keep] w fun e w' => e = .returned (.tuple #[]) ∧ BothD w0 q r S (downD T keep) X w' ∧ Stay X w w' := by
  obtain ⟨F, G, h1, h2, h3, h4, h5, h6, h7⟩ := h
  exact (refCrash_c G r T keep w h2 k3 (fun j _ => by have := hg.2 j; omega)).mono fun e w' ⟨a, b⟩ => ⟨a, BothD.didR h1 h2 h3 h4 h5 h6 h7 b⟩
theorem tPowerB : Calls Try.prog 15 #[.pointer (some ⟨q, 0, none⟩)] w fun e w' => e = .returned (.tuple #[]) ∧ BothD w0 q r (powerD S) T X w' ∧ Stay X w w' := by
  obtain ⟨F, G, h1, h2, h3, h4, h5, h6, h7⟩ := h
  exact (bPower_c F q S w h1 (hf.mono (by omega)) ).mono fun e w' ⟨a, b⟩ => ⟨a, BothD.didB h1 h2 h3 h4 h5 h6 h7 b⟩
theorem tPowerR : Calls Try.prog 16 #[.pointer (some ⟨r, 0, none⟩)] w fun e w' => e = .returned (.tuple #[]) ∧ BothD w0 q r S (powerD T) X w' ∧ Stay X w w' := by
  obtain ⟨F, G, h1, h2, h3, h4, h5, h6, h7⟩ := h
  exact (refPower_c G r T w h2).mono fun e w' ⟨a, b⟩ => ⟨a, BothD.didR h1 h2 h3 h4 h5 h6 h7 b⟩
theorem tReadR {i : Int} (k1 : -9223372036854775808 ≤ i) (k2 : i ≤ 9223372036854775807) : Calls Try.prog 18 #[.pointer (some ⟨r, 0, none⟩), .int .i64 i] w fun e w' => e = .returned (.tuple #[.string (str (readD T i).1), .int .i64 (readD T i).2]) ∧ w = w' := by
  obtain ⟨F, G, h1, h2, h3, h4, h5, h6, h7⟩ := h
  exact refRead_c G r T i w h2 k1 k2 (fun j _ => by have := hg.2 j; omega)
theorem tDeadB : Calls Try.prog 13 #[.pointer (some ⟨q, 0, none⟩)] w fun e w' => e = .returned (.bool S.gone) ∧ BothD w0 q r S T X w' ∧ Below w.heap.size w w' := by
  obtain ⟨F, G, h1, h2, h3, h4, h5, h6, h7⟩ := h
  exact (bDead_c F q S w h1 (hf.mono (by omega)) ).mono fun e w' ⟨a, b⟩ => ⟨a, BothD.below ⟨F, G, h1, h2, h3, h4, h5, h6, h7⟩ b, b⟩
theorem tCallsB : Calls Try.prog 14 #[.pointer (some ⟨q, 0, none⟩)] w fun e w' => e = .returned (.int .i64 (S.calls : Int)) ∧ BothD w0 q r S T X w' ∧ Below w.heap.size w w' := by
  obtain ⟨F, G, h1, h2, h3, h4, h5, h6, h7⟩ := h
  exact (bCalls_c F q S w h1 (hf.mono (by omega)) ).mono fun e w' ⟨a, b⟩ => ⟨a, BothD.below ⟨F, G, h1, h2, h3, h4, h5, h6, h7⟩ b, b⟩
theorem tReadB {i : Int} (k1 : -9223372036854775808 ≤ i) (k2 : i ≤ 9223372036854775807) : Calls Try.prog 17 #[.pointer (some ⟨q, 0, none⟩), .int .i64 i] w fun e w' => e = .returned (.tuple #[.string (str (readD S i).1), .int .i64 (readD S i).2]) ∧ BothD w0 q r S T X w' ∧ Below w.heap.size w w' := by
  obtain ⟨F, G, h1, h2, h3, h4, h5, h6, h7⟩ := h
  exact (bRead_c F q S w h1 (hf.mono (by omega)) i k1 k2).mono fun e w' ⟨a, b⟩ => ⟨a, BothD.below ⟨F, G, h1, h2, h3, h4, h5, h6, h7⟩ b, b⟩
theorem tSizeB : Calls Try.prog 11 #[.pointer (some ⟨q, 0, none⟩)] w fun e w' => e = .returned (.int .i64 (S.n : Int)) ∧ BothD w0 q r S T X w' ∧ Below w.heap.size w w' := by
  obtain ⟨F, G, h1, h2, h3, h4, h5, h6, h7⟩ := h
  exact (bSize_c F q S w h1 (hf.mono (by omega)) ).mono fun e w' ⟨a, b⟩ => ⟨a, BothD.below ⟨F, G, h1, h2, h3, h4, h5, h6, h7⟩ b, b⟩
end
end Go.Proofs.Ytndmndchbfmppaa
