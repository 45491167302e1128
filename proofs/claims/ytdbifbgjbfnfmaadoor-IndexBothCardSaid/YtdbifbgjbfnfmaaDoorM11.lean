/-
  Texts of the same seat, one behind the other (merged; each says at its head what it is).
-/
import Derived.Test.YtdbifbgjbfnfmaaDoorM10
/-
  Layer 4 (label): two runs in a row of labels become one.
-/
namespace Go.Proofs.YtdbifbgjbfnfmaaDoor
open Go.RowKit Go.Deep
attribute [local go_sem] str_size str_append str_toList str_get str_extract
set_option linter.unusedVariables false
set_option linter.unusedSimpArgs false
/-- What the merging of two runs says. -/
def SymSays (K : Nat) : Prop := ∀ (g B N cap a m b : Nat) (P A C S : List Lab) (w : World), A.length + C.length ≤ K → B ≤ g → B ≤ w.heap.size → a = P.length → m = a + A.length → b = m + C.length → 1 ≤ A.length → 1 ≤ C.length → SortedN A → SortedN C → b ≤ N → N ≤ 4096 → RowL g (P ++ A ++ C ++ S) w →
    Calls Tryd.prog 121 #[.slice (some ⟨g, 0, none⟩) N cap, .int .i64 (a : Int), .int .i64 (m : Int), .int .i64 (b : Int), .func (.func 80) #[] #[]] w fun e w' => e = .returned (.tuple #[]) ∧ (∃ D, RowL g (P ++ D ++ S) w' ∧ SortedN D ∧ Stb D (A ++ C) ∧ D.length = A.length + C.length) ∧ Below B w w'
/-- The four pieces that a merging's search leaves. -/
structure SymCut (a m b mid s e : Nat) (A C A1 U V C2 : List Lab) : Prop where
  hA : A = A1 ++ U
  hC : C = V ++ C2
  l1 : A1.length + a = s
  l2 : U.length + s = m
  l3 : V.length + m = e
  l4 : C2.length + e = b
  hes : e + s = mid + m
  hmid : a < mid ∧ mid < b
  s1 : SortedN A1
  s2 : SortedN U
  s3 : SortedN V
  s4 : SortedN C2
  fin : ∀ D1 D2, SortedN D1 → Stb D1 (A1 ++ V) → SortedN D2 → Stb D2 (U ++ C2) → SortedN (D1 ++ D2) ∧ Stb (D1 ++ D2) (A ++ C)
theorem sym_cut {a m b mid n p lo hi s e : Nat} {A C : List Lab} (hA : SortedN A) (hC : SortedN C) (hm : m = a + A.length) (hb : b = m + C.length) (hmid : a < mid ∧ mid < b) (hpn : p + 1 = n) (hn : n = mid + m) (hedge : (lo = a ∨ n = lo + b) ∧ (hi = m ∨ hi = mid)) (hs1 : lo ≤ s) (hs2 : s ≤ hi) (halo : a ≤ lo) (hhm : hi ≤ m) (hhi : hi ≤ mid) (hnlo : n ≤ lo + b) (he : e = n - s) (HI : (lo < s → ltN (atN C (p - (s - 1) - m)) (atN A (s - 1 - a)) = false) ∧ (s < hi → ltN (atN C (p - s - m)) (atN A (s - a)) = true)) : ∃ A1 U V C2, SymCut a m b mid s e A C A1 U V C2 := by
  obtain ⟨sg, hsg⟩ : ∃ sg, sg = s - a := ⟨_, rfl⟩
  obtain ⟨ta, hta⟩ : ∃ ta, ta = e - m := ⟨_, rfl⟩
  refine ⟨A.take sg, A.drop sg, C.take ta, C.drop ta, (List.take_append_drop sg A).symm, (List.take_append_drop ta C).symm, ?_, ?_, ?_, ?_, by omega, hmid, sorted_take hA sg, sorted_drop hA sg, sorted_take hC ta, sorted_drop hC ta, fun D1 D2 d1 e1 d2 e2 => merge_end hA hC ?_ ?_ ?_ ?_ d1 e1 d2 e2⟩
  · rw [List.length_take]; omega
  · rw [List.length_drop]; omega
  · rw [List.length_take]; omega
  · rw [List.length_drop]; omega
  · intro h1 h2
    have := HI.2 (by omega)
    rw [show p - s - m = ta - 1 by omega, ← hsg] at this
    exact this
  · intro h1 h2
    have := HI.1 (by omega)
    rw [show p - (s - 1) - m = ta by omega, show s - 1 - a = sg - 1 by omega] at this
    exact this
  · omega
  · omega
section
variable {a m b mid s e : Nat} {A C A1 U V C2 : List Lab}
theorem SymCut.bounds (h : SymCut a m b mid s e A C A1 U V C2) : a ≤ s ∧ s ≤ m ∧ m ≤ e ∧ e ≤ b ∧ s ≤ mid ∧ mid ≤ e := by
  have := h.l1; have := h.l2; have := h.l3; have := h.l4; have := h.hes; have := h.hmid
  omega
theorem SymCut.len (h : SymCut a m b mid s e A C A1 U V C2) : A1.length + V.length + (U.length + C2.length) = A.length + C.length := by
  rw [h.hA, h.hC]; simp; omega
theorem SymCut.left0 (h : SymCut a m b mid s e A C A1 U V C2) (hh : s ≤ a ∨ mid ≤ s) : SortedN (A1 ++ V) := by
  have := h.l1; have := h.l2; have := h.l3; have := h.hes
  rcases hh with hh | hh
  · have e1 : A1 = [] := List.eq_nil_of_length_eq_zero (by omega)
    rw [e1]; simpa using h.s3
  · have e1 : V = [] := List.eq_nil_of_length_eq_zero (by omega)
    rw [e1]; simpa using h.s1
theorem SymCut.right0 (h : SymCut a m b mid s e A C A1 U V C2) (hh : e ≤ mid ∨ b ≤ e) : SortedN (U ++ C2) := by
  have := h.l2; have := h.l3; have := h.l4; have := h.hes
  rcases hh with hh | hh
  · have e1 : U = [] := List.eq_nil_of_length_eq_zero (by omega)
    rw [e1]; simpa using h.s4
  · have e1 : C2 = [] := List.eq_nil_of_length_eq_zero (by omega)
    rw [e1]; simpa using h.s2
theorem SymCut.still (h : SymCut a m b mid s e A C A1 U V C2) {g : Nat} {P S : List Lab} {W : World} (hr : RowL g (P ++ A ++ C ++ S) W) (hh : m ≤ s ∨ e ≤ m) : RowL g (P ++ (A1 ++ V) ++ (U ++ C2) ++ S) W := by
  have := h.l2; have := h.l3
  rw [h.hA, h.hC] at hr
  rcases hh with hh | hh
  · have e1 : U = [] := List.eq_nil_of_length_eq_zero (by omega)
    rw [e1] at hr ⊢; simpa using hr
  · have e1 : V = [] := List.eq_nil_of_length_eq_zero (by omega)
    rw [e1] at hr ⊢; simpa using hr
theorem SymCut.turned (h : SymCut a m b mid s e A C A1 U V C2) {g B N cap : Nat} {P S : List Lab} {W : World} (hg : B ≤ g) (hB : B ≤ W.heap.size) (ha : a = P.length) (hN : b ≤ N) (hn : N ≤ 4096) (hr : RowL g (P ++ A ++ C ++ S) W) (h1 : s < m) (h2 : m < e) (cf : Value) :
    Calls Tryd.prog 131 #[.slice (some ⟨g, 0, none⟩) N cap, .int .i64 (s : Int), .int .i64 (m : Int), .int .i64 (e : Int), cf] W fun o w' => o = .returned (.tuple #[]) ∧ RowL g (P ++ (A1 ++ V) ++ (U ++ C2) ++ S) w' ∧ Below B W w' := by
  have := h.l1; have := h.l2; have := h.l3; have := h.l4
  rw [h.hA, h.hC] at hr
  refine (rotate_c g B N cap s m e (P ++ A1) U V (C2 ++ S) W hg hB (by simp; omega) (by simp; omega) (by simp; omega) (by omega) (by omega) (by omega) hn (by simpa using hr) cf).mono ?_
  rintro o w' ⟨ho, hr', hb'⟩
  exact ⟨ho, by simpa using hr', hb'⟩
theorem SymCut.left (h : SymCut a m b mid s e A C A1 U V C2) {K g B N cap : Nat} {P S : List Lab} {W : World} (ihk : SymSays K) (hK : A.length + C.length ≤ K + 1) (hg : B ≤ g) (hB : B ≤ W.heap.size) (ha : a = P.length) (hN : b ≤ N) (hn : N ≤ 4096) (hr : RowL g (P ++ (A1 ++ V) ++ (U ++ C2) ++ S) W) (h1 : a < s) (h2 : s < mid) :
    Calls Tryd.prog 121 #[.slice (some ⟨g, 0, none⟩) N cap, .int .i64 (a : Int), .int .i64 (s : Int), .int .i64 (mid : Int), .func (.func 80) #[] #[]] W fun o w' => o = .returned (.tuple #[]) ∧ (∃ D, RowL g (P ++ D ++ (U ++ C2) ++ S) w' ∧ SortedN D ∧ Stb D (A1 ++ V) ∧ D.length = A1.length + V.length) ∧ Below B W w' := by
  have := h.l1; have := h.l2; have := h.l3; have := h.l4; have := h.hes; have := h.hmid; have := h.len
  refine (ihk g B N cap a s mid P A1 V (U ++ C2 ++ S) W (by omega) hg hB ha (by omega) (by omega) (by omega) (by omega) h.s1 h.s3 (by omega) hn (by simpa using hr)).mono ?_
  rintro o w' ⟨ho, ⟨D, hr', q⟩, hb'⟩
  exact ⟨ho, ⟨D, by simpa using hr', q⟩, hb'⟩
theorem SymCut.right (h : SymCut a m b mid s e A C A1 U V C2) {K g B N cap : Nat} {P S : List Lab} {W : World} (ihk : SymSays K) (hK : A.length + C.length ≤ K + 1) (hg : B ≤ g) (hB : B ≤ W.heap.size) (ha : a = P.length) (hN : b ≤ N) (hn : N ≤ 4096) (hr : (∃ D, RowL g (P ++ D ++ (U ++ C2) ++ S) W ∧ SortedN D ∧ Stb D (A1 ++ V) ∧ D.length = A1.length + V.length)) (h1 : mid < e) (h2 : e < b) :
    Calls Tryd.prog 121 #[.slice (some ⟨g, 0, none⟩) N cap, .int .i64 (mid : Int), .int .i64 (e : Int), .int .i64 (b : Int), .func (.func 80) #[] #[]] W fun o w' => o = .returned (.tuple #[]) ∧ (∃ D1 D2, RowL g (P ++ (D1 ++ D2) ++ S) w' ∧ (SortedN D1 ∧ Stb D1 (A1 ++ V) ∧ D1.length = A1.length + V.length) ∧ SortedN D2 ∧ Stb D2 (U ++ C2) ∧ D2.length = U.length + C2.length) ∧ Below B W w' := by
  have := h.l1; have := h.l2; have := h.l3; have := h.l4; have := h.hes; have := h.hmid; have := h.len
  obtain ⟨D, hr, q⟩ := hr
  have hD := q.2.2
  refine (ihk g B N cap mid e b (P ++ D) U C2 S W (by omega) hg hB (by simp; omega) (by omega) (by omega) (by omega) (by omega) h.s2 h.s4 (by omega) hn (by simpa using hr)).mono ?_
  rintro o w' ⟨ho, ⟨D2, hr', q2⟩, hb'⟩
  exact ⟨ho, ⟨D, D2, by simpa using hr', q, q2⟩, hb'⟩
theorem SymCut.unleft (h : SymCut a m b mid s e A C A1 U V C2) {g : Nat} {P S : List Lab} {W : World} (hr : RowL g (P ++ (A1 ++ V) ++ (U ++ C2) ++ S) W) (hh : s ≤ a ∨ mid ≤ s) : (∃ D, RowL g (P ++ D ++ (U ++ C2) ++ S) W ∧ SortedN D ∧ Stb D (A1 ++ V) ∧ D.length = A1.length + V.length) := ⟨A1 ++ V, hr, h.left0 hh, Stb.refl _, by simp⟩
theorem SymCut.unright (h : SymCut a m b mid s e A C A1 U V C2) {g : Nat} {P S : List Lab} {W : World} (hr : (∃ D, RowL g (P ++ D ++ (U ++ C2) ++ S) W ∧ SortedN D ∧ Stb D (A1 ++ V) ∧ D.length = A1.length + V.length)) (hh : e ≤ mid ∨ b ≤ e) : (∃ D1 D2, RowL g (P ++ (D1 ++ D2) ++ S) W ∧ (SortedN D1 ∧ Stb D1 (A1 ++ V) ∧ D1.length = A1.length + V.length) ∧ SortedN D2 ∧ Stb D2 (U ++ C2) ∧ D2.length = U.length + C2.length) := by
  obtain ⟨D, hr, q⟩ := hr
  exact ⟨D, U ++ C2, by simpa using hr, q, h.right0 hh, Stb.refl _, by simp⟩
theorem SymCut.whole (h : SymCut a m b mid s e A C A1 U V C2) {g : Nat} {P S : List Lab} {W : World} (hr : (∃ D1 D2, RowL g (P ++ (D1 ++ D2) ++ S) W ∧ (SortedN D1 ∧ Stb D1 (A1 ++ V) ∧ D1.length = A1.length + V.length) ∧ SortedN D2 ∧ Stb D2 (U ++ C2) ∧ D2.length = U.length + C2.length)) : ∃ D, RowL g (P ++ D ++ S) W ∧ SortedN D ∧ Stb D (A ++ C) ∧ D.length = A.length + C.length := by
  obtain ⟨D1, D2, hr, q1, q2⟩ := hr
  obtain ⟨f1, f2⟩ := h.fin D1 D2 q1.1 q1.2.1 q2.1 q2.2.1
  exact ⟨D1 ++ D2, hr, f1, f2, by rw [List.length_append, q1.2.2, q2.2.2, h.len]⟩
end
attribute [local irreducible] RowL Stb SortedN
set_option maxRecDepth 100000 in
set_option maxHeartbeats 8000000 in
theorem symm_lo (K g B N cap a m b : Nat) (P A C S : List Lab) (w : World) (ihk : SymSays K) (hK : A.length + C.length ≤ K + 1) (hg : B ≤ g) (hB : B ≤ w.heap.size) (ha : a = P.length) (hm : m = a + A.length) (hb : b = m + C.length) (hA2 : 2 ≤ A.length) (hC2 : 2 ≤ C.length) (hA : SortedN A) (hC : SortedN C) (hN : b ≤ N) (hn : N ≤ 4096) (hr : RowL g (P ++ A ++ C ++ S) w) (mid n p lo hi : Nat) (hmid : mid = (a + b) / 2) (hnn : n = mid + m) (hp : p = n - 1) (hcase : mid < m ∧ lo = n - b ∧ hi = mid) :
    Calls Tryd.prog 121 #[.slice (some ⟨g, 0, none⟩) N cap, .int .i64 (a : Int), .int .i64 (m : Int), .int .i64 (b : Int), .func (.func 80) #[] #[]] w fun e w' => e = .returned (.tuple #[]) ∧ (∃ D, RowL g (P ++ D ++ S) w' ∧ SortedN D ∧ Stb D (A ++ C) ∧ D.length = A.length + C.length) ∧ Below B w w' := by
  have HA := Lib.hid (And.intro ha (And.intro hm hb))
  obtain ⟨al, hal⟩ : ∃ al, A.length = al := ⟨_, rfl⟩
  obtain ⟨cl, hcl⟩ : ∃ cl, C.length = cl := ⟨_, rfl⟩
  have em1 : (m : Int) - (a : Int) = (al : Int) := by omega
  have em2 : (b : Int) - (m : Int) = (cl : Int) := by omega
  have n1 : ((al : Int) == 1) = false := by rw [beq_eq_false_iff_ne]; omega
  have n2 : ((cl : Int) == 1) = false := by rw [beq_eq_false_iff_ne]; omega
  have emid := half_eq a b mid hmid
  have en : (mid : Int) + (m : Int) = (n : Int) := by omega
  have ep : (n : Int) - 1 = (p : Int) := by omega
  have hpn : p + 1 ≤ n ∧ n ≤ p + 1 := by omega
  have hnm : n ≤ mid + m ∧ mid + m ≤ n := by omega
  have ham : a + 2 ≤ m := by omega
  have hmb : m + 2 ≤ b := by omega
  have hbound : a < mid ∧ mid < b := by omega
  have hlo : a ≤ lo := by omega
  have hlh : lo ≤ hi := by omega
  have hhm : hi ≤ m := by omega
  have hhmid : hi ≤ mid := by omega
  have hnlo : n ≤ lo + b := by omega
  have HEDGE : Hid ((lo = a ∨ n = lo + b) ∧ (hi = m ∨ hi = mid)) := by show _ ∧ _; omega
  have HR0 := Lib.hid hr
  have hab2 : a + b < 4294967296 := by omega
  obtain ⟨c1, c2, c3⟩ := hcase
  have hgt : (mid : Int) < (m : Int) := by omega
  have elo : (n : Int) - (b : Int) = (lo : Int) := by omega
  have HLO : Hid ((lo : Int) = (lo : Int)) := rfl
  have HHI : Hid ((mid : Int) = (hi : Int)) := by show _ = _; omega
  clear hr ha hm hb hmid hnn hp c1 c2 c3
  go_enter Tryd.func121, Tryd.ntmps121
  go_wp2_with fail
  go_loopw [20, 21] (fun c d wr => ∃ s r : Nat, c = .int .i64 s ∧ d = .int .i64 r ∧ lo ≤ s ∧ s ≤ r ∧ r ≤ hi ∧ RowL g (P ++ A ++ C ++ S) wr ∧ Hid ((lo < s → ltN (atN C (p - (s - 1) - m)) (atN A (s - 1 - a)) = false) ∧ (r < hi → ltN (atN C (p - r - m)) (atN A (r - a)) = true)) ∧ Below B w wr) (fun c d _ => (intOf d).toNat - (intOf c).toNat)
  case atStart => exact ⟨lo, hi, by first | rfl | rw [HLO.out], by first | rfl | rw [HHI.out], by omega, by omega, by omega, HR0.out, ⟨fun h => by omega, fun h => by omega⟩, Below.refl _ _⟩
  case round =>
    obtain ⟨s, r, rfl, rfl, hlos, hsr, hrh, hrow, HI, hbw⟩ := hrel
    have hsz := hbw.size
    by_cases hlt : s < r
    ·
      --cut
      obtain ⟨h, hh⟩ : ∃ h, h = (s + r) / 2 := ⟨_, rfl⟩
      have eh := half_eq s r h hh
      have hih : s ≤ h := by omega
      have hhj : h < r := by omega
      obtain ⟨v, hv⟩ : ∃ v, v = p - h := ⟨_, rfl⟩
      have hvm : m ≤ v := by omega
      have hvb : v < b := by omega
      have ev : (p : Int) - (h : Int) = (v : Int) := by omega
      obtain ⟨y, hy⟩ : ∃ y, atN C (v - m) = y := ⟨_, rfl⟩
      obtain ⟨x, hx⟩ : ∃ x, atN A (h - a) = x := ⟨_, rfl⟩
      have h1 := HA.out
      have hyl : atN (P ++ A ++ C ++ S) v = y := by
        rw [show P ++ A ++ C ++ S = (P ++ A) ++ (C ++ S) by simp, atN_right (by simp; omega), atN_left (by simp; omega), ← hy]
        congr 1
        simp; omega
      have hxl : atN (P ++ A ++ C ++ S) h = x := by
        rw [show P ++ A ++ C ++ S = P ++ (A ++ (C ++ S)) by simp, atN_right (by omega), atN_left (by omega), ← hx, h1.1]
      have hll : (P ++ A ++ C ++ S).length = b + S.length := by simp; omega
      have hS : ∀ W, Below wr.heap.size wr W → W.cell? ⟨g, v * 2, none⟩ = some (.string (str y.1)) ∧ W.cell? ⟨g, v * 2 + 1, none⟩ = some (.string (str y.2)) ∧ W.cell? ⟨g, h * 2, none⟩ = some (.string (str x.1)) ∧ W.cell? ⟨g, h * 2 + 1, none⟩ = some (.string (str x.2)) ∧ Below wr.heap.size wr W := by
        intro W hW
        have hrW := hrow.below hW
        obtain ⟨y0, y1⟩ := hrW.gat (i := v) (by rw [hll]; omega) y hyl
        obtain ⟨x0, x1⟩ := hrW.gat (i := h) (by rw [hll]; omega) x hxl
        exact ⟨y0, y1, x0, x1, hW⟩
      have HS := Lib.hid hS
      have cc := fun W => cmp_c y x W
      obtain ⟨c, hc⟩ : ∃ c, cmpN y x = c := ⟨_, rfl⟩
      rw [hc] at cc
      have HC := Lib.hid hc
      have HY : Hid (atN C (p - h - m) = y ∧ atN A (h - a) = x) := ⟨by rw [← hv]; exact hy, hx⟩
      have HROW := Lib.hid hrow
      have ih : (0 : Int) ≤ (h : Int) ∧ (h : Int) < (N : Int) := by omega
      have iv : (0 : Int) ≤ (v : Int) ∧ (v : Int) < (N : Int) := by omega
      have wv : IntKind.i64.wrap (v : Int) = (v : Int) := IntWalk.i64_in _ (by omega)
      clear hS hc hrow hyl hxl hll hh hy hx hv h1
      go_wp2_with fail
      refine wp_region_held_drew (S := fun W => W.cell? ⟨g, v * 2, none⟩ = some (.string (str y.1)) ∧ W.cell? ⟨g, v * 2 + 1, none⟩ = some (.string (str y.2)) ∧ W.cell? ⟨g, h * 2, none⟩ = some (.string (str x.1)) ∧ W.cell? ⟨g, h * 2 + 1, none⟩ = some (.string (str x.2)) ∧ Below wr.heap.size wr W) (by kernel_rfl) (HS.out _ ((Below.refl _ _).drew)) (fun hHeld => ?_)
      refine held_w (i := 0) (d := some 158) (v := ?_) rfl (by kernel_rfl) (by kernel_rfl) (by kernel_rfl) (fun _ _ _ h => h) (by rfl) ?_ hHeld ?_
      rotate_left
      · intro w' hSw; obtain ⟨q0, q1, q2, q3, q4⟩ := hSw; simp only [List.getElem?_toArray, List.getElem?_cons_zero, List.getElem?_cons_succ]; go_simp; try with_reducible rfl
      try simp only [Act.put, List.setIfInBounds_toArray, List.set_cons_zero, List.set_cons_succ]
      refine held_w (i := 1) (d := some 159) (v := ?_) rfl (by kernel_rfl) (by kernel_rfl) (by kernel_rfl) (fun _ _ _ h => h) (by rfl) ?_ hHeld ?_
      rotate_left
      · intro w' hSw; obtain ⟨q0, q1, q2, q3, q4⟩ := hSw; simp only [List.getElem?_toArray, List.getElem?_cons_zero, List.getElem?_cons_succ]; go_simp; try with_reducible rfl
      try simp only [Act.put, List.setIfInBounds_toArray, List.set_cons_zero, List.set_cons_succ]
      refine held_w (i := 2) (d := some 160) (v := ?_) rfl (by kernel_rfl) (by kernel_rfl) (by kernel_rfl) (fun _ _ _ h => h) (by rfl) ?_ hHeld ?_
      rotate_left
      · intro w' hSw; obtain ⟨q0, q1, q2, q3, q4⟩ := hSw; simp only [List.getElem?_toArray, List.getElem?_cons_zero, List.getElem?_cons_succ]; go_simp; try with_reducible rfl
      try simp only [Act.put, List.setIfInBounds_toArray, List.set_cons_zero, List.set_cons_succ]
      refine held_w (i := 3) (d := some 161) (v := ?_) rfl (by kernel_rfl) (by kernel_rfl) (by kernel_rfl) (fun _ _ _ h => h) (by rfl) ?_ hHeld ?_
      rotate_left
      · intro w' hSw; obtain ⟨q0, q1, q2, q3, q4⟩ := hSw; simp only [List.getElem?_toArray, List.getElem?_cons_zero, List.getElem?_cons_succ]; go_simp; try with_reducible rfl
      try simp only [Act.put, List.setIfInBounds_toArray, List.set_cons_zero, List.set_cons_succ]
      refine held_w (i := 4) (d := some 162) (v := ?_) rfl (by kernel_rfl) (by kernel_rfl) (by kernel_rfl) (fun _ _ _ h => h) (by rfl) ?_ hHeld ?_
      rotate_left
      · intro w' hSw; obtain ⟨q0, q1, q2, q3, q4⟩ := hSw; simp only [List.getElem?_toArray, List.getElem?_cons_zero, List.getElem?_cons_succ]; go_simp; try with_reducible rfl
      try simp only [Act.put, List.setIfInBounds_toArray, List.set_cons_zero, List.set_cons_succ]
      refine held_w (i := 5) (d := some 163) (v := ?_) rfl (by kernel_rfl) (by kernel_rfl) (by kernel_rfl) (fun _ _ _ h => h) (by rfl) ?_ hHeld ?_
      rotate_left
      · intro w' hSw; obtain ⟨q0, q1, q2, q3, q4⟩ := hSw; simp only [List.getElem?_toArray, List.getElem?_cons_zero, List.getElem?_cons_succ]; go_simp; try with_reducible rfl
      try simp only [Act.put, List.setIfInBounds_toArray, List.set_cons_zero, List.set_cons_succ]
      refine held_w (i := 6) (d := some 164) (v := ?_) rfl (by kernel_rfl) (by kernel_rfl) (by kernel_rfl) (fun _ _ _ h => h) (by rfl) ?_ hHeld ?_
      rotate_left
      · intro w' hSw; obtain ⟨q0, q1, q2, q3, q4⟩ := hSw; simp only [List.getElem?_toArray, List.getElem?_cons_zero, List.getElem?_cons_succ]; go_simp; try with_reducible rfl
      try simp only [Act.put, List.setIfInBounds_toArray, List.set_cons_zero, List.set_cons_succ]
      refine held_w (i := 7) (d := some 165) (v := ?_) rfl (by kernel_rfl) (by kernel_rfl) (by kernel_rfl) (fun _ _ _ h => h) (by rfl) ?_ hHeld ?_
      rotate_left
      · intro w' hSw; obtain ⟨q0, q1, q2, q3, q4⟩ := hSw; simp only [List.getElem?_toArray, List.getElem?_cons_zero, List.getElem?_cons_succ]; go_simp; try with_reducible rfl
      try simp only [Act.put, List.setIfInBounds_toArray, List.set_cons_zero, List.set_cons_succ]
      refine held_w (i := 8) (d := some 166) (v := ?_) rfl (by kernel_rfl) (by kernel_rfl) (by kernel_rfl) (fun _ _ _ h => h) (by rfl) ?_ hHeld ?_
      rotate_left
      · intro w' hSw; obtain ⟨q0, q1, q2, q3, q4⟩ := hSw; simp only [List.getElem?_toArray, List.getElem?_cons_zero, List.getElem?_cons_succ]; go_simp; try with_reducible rfl
      try simp only [Act.put, List.setIfInBounds_toArray, List.set_cons_zero, List.set_cons_succ]
      refine held_w (i := 9) (d := some 167) (v := ?_) rfl (by kernel_rfl) (by kernel_rfl) (by kernel_rfl) (fun _ _ _ h => h) (by rfl) ?_ hHeld ?_
      rotate_left
      · intro w' hSw; obtain ⟨q0, q1, q2, q3, q4⟩ := hSw; simp only [List.getElem?_toArray, List.getElem?_cons_zero, List.getElem?_cons_succ]; go_simp; try with_reducible rfl
      try simp only [Act.put, List.setIfInBounds_toArray, List.set_cons_zero, List.set_cons_succ]
      refine held_w (i := 10) (d := some 168) (v := ?_) rfl (by kernel_rfl) (by kernel_rfl) (by kernel_rfl) (fun _ _ _ h => h) (by rfl) ?_ hHeld ?_
      rotate_left
      · intro w' hSw; obtain ⟨q0, q1, q2, q3, q4⟩ := hSw; simp only [List.getElem?_toArray, List.getElem?_cons_zero, List.getElem?_cons_succ]; go_simp; try with_reducible rfl
      try simp only [Act.put, List.setIfInBounds_toArray, List.set_cons_zero, List.set_cons_succ]
      refine held_c (i := 11) (by kernel_rfl) (by rfl) (fun K hK => ?_)
      simp only [List.getElem?_toArray, List.getElem?_cons_zero, List.getElem?_cons_succ]
      go_simp
      refine (cc _).mono ?_
      rintro e w3 ⟨rfl, hb3⟩
      have hb4 := hHeld.2.2.2.2.trans (hb3.mono hHeld.2.2.2.2.size)
      refine hK.out _ _ (HS.out _ hb4) (fun hHeld => ?_)
      clear hK hb3
      try simp only [Act.put, List.setIfInBounds_toArray, List.set_cons_zero, List.set_cons_succ]
      refine held_w (i := 12) (d := some 170) (v := ?_) rfl (by kernel_rfl) (by kernel_rfl) (by kernel_rfl) (fun _ _ _ h => h) (by rfl) ?_ hHeld ?_
      rotate_left
      · intro w' hSw; obtain ⟨q0, q1, q2, q3, q4⟩ := hSw; simp only [List.getElem?_toArray, List.getElem?_cons_zero, List.getElem?_cons_succ]; go_simp; try with_reducible rfl
      try simp only [Act.put, List.setIfInBounds_toArray, List.set_cons_zero, List.set_cons_succ]
      refine held_w (i := 13) (d := some 171) (v := ?_) rfl (by kernel_rfl) (by kernel_rfl) (by kernel_rfl) (fun _ _ _ h => h) (by rfl) ?_ hHeld ?_
      rotate_left
      · intro w' hSw; obtain ⟨q0, q1, q2, q3, q4⟩ := hSw; simp only [List.getElem?_toArray, List.getElem?_cons_zero, List.getElem?_cons_succ]; go_simp; try with_reducible rfl
      try simp only [Act.put, List.setIfInBounds_toArray, List.set_cons_zero, List.set_cons_succ]
      refine wpAnyH_done (by kernel_rfl) ?_ _
      skip
      have hbq := hHeld.2.2.2.2
      have hrW := Lib.hid (HROW.out.below hbq)
      have hbB : Below B w w3 := hbw.trans (hbq.mono (by have := hbw.size; omega))
      clear hHeld hb4 hbq
      cases hlt2 : ltN y x with
      | false =>
        have hcl0 : ¬ c < 0 := by rw [← HC.out]; exact cmpN_ge hlt2
        rw [decide_eq_false hcl0, Bool.not_false]
        clear hcl0
        have HI2 : Hid ((lo < h + 1 → ltN (atN C (p - (h + 1 - 1) - m)) (atN A (h + 1 - 1 - a)) = false) ∧ (r < hi → ltN (atN C (p - r - m)) (atN A (r - a)) = true)) := ⟨fun _ => by rw [Nat.add_sub_cancel, HY.out.1, HY.out.2]; exact hlt2, HI.out.2⟩
        clear hlt2
        go_wp2_with fail
        go_roundw
        case rel => exact ⟨h + 1, r, by go_num, rfl, by omega, by omega, hrh, hrW.out, HI2.out, hbB⟩
        case measure => simp [intOf]; omega
      | true =>
        have hcl0 : c < 0 := by rw [← HC.out]; exact cmpN_lt hlt2
        rw [decide_eq_true hcl0, Bool.not_true]
        clear hcl0
        have HI2 : Hid ((lo < s → ltN (atN C (p - (s - 1) - m)) (atN A (s - 1 - a)) = false) ∧ (h < hi → ltN (atN C (p - h - m)) (atN A (h - a)) = true)) := ⟨HI.out.1, fun _ => by rw [HY.out.1, HY.out.2]; exact hlt2⟩
        clear hlt2
        go_wp2_with fail
        go_roundw
        case rel => exact ⟨s, h, rfl, rfl, hlos, by omega, by omega, hrW.out, HI2.out, hbB⟩
        case measure => simp [intOf]; omega
      --uncut
    · obtain rfl : s = r := by omega
      obtain ⟨e, he⟩ : ∃ e, e = n - s := ⟨_, rfl⟩
      have ee : (n : Int) - (s : Int) = (e : Int) := by omega
      have hme : m ≤ e := by omega
      have heb : e ≤ b := by omega
      have has : a ≤ s := by omega
      have hsm : s ≤ m := by omega
      have hsmid : s ≤ mid := by omega
      have h1 := HA.out
      obtain ⟨A1, U, V, C2, cut⟩ := sym_cut (a := a) (m := m) (b := b) (mid := mid) (n := n) (p := p) (lo := lo) (hi := hi) (s := s) (e := e) hA hC h1.2.1 h1.2.2 hbound (by omega) (by omega) HEDGE.out hlos hrh hlo hhm hhmid hnlo he HI.out
      have CUT := Lib.hid cut
      have HROW := Lib.hid hrow
      clear cut hrow HI HEDGE he h1 hnlo hhm hhmid hlh hlo hrh hlos hnm hpn
      go_wp2_with (first
        | (go_at_call 131; refine (CUT.out.turned (S := S) hg (by have := hbw.size; omega) HA.out.1 hN hn HROW.out (by omega) (by omega) _).mono ?_; rintro _ w1 ⟨rfl, hr1, hb1⟩; have HT := Lib.hid hr1; have hbw := hbw.trans hb1; clear hr1 hb1; dsimp only)
        | (go_at_call_of 121 (Value.int IntKind.i64 (s : Int)); refine (CUT.out.left (S := S) ihk hK hg (by have := hbw.size; omega) HA.out.1 hN hn (by first | exact HT.out | exact CUT.out.still HROW.out (by omega)) (by omega) (by omega)).mono ?_; rintro _ w2 ⟨rfl, hr2, hb2⟩; have HD := Lib.hid hr2; have hbw := hbw.trans hb2; clear hr2 hb2; dsimp only)
        | (go_at_call_of 121 (Value.int IntKind.i64 (e : Int)); refine (CUT.out.right (S := S) ihk hK hg (by have := hbw.size; omega) HA.out.1 hN hn (by first | exact HD.out | exact CUT.out.unleft (by first | exact HT.out | exact CUT.out.still HROW.out (by omega)) (by omega)) (by omega) (by omega)).mono ?_; rintro _ w3 ⟨rfl, hr3, hb3⟩; have HE := Lib.hid hr3; have hbw := hbw.trans hb3; clear hr3 hb3; dsimp only))
      all_goals (go_end0; exact ⟨rfl, CUT.out.whole (by first | exact HE.out | exact CUT.out.unright (by first | exact HD.out | exact CUT.out.unleft (by first | exact HT.out | exact CUT.out.still HROW.out (by omega)) (by omega)) (by omega)), hbw⟩)
set_option maxRecDepth 100000 in
set_option maxHeartbeats 8000000 in
theorem symm_hi (K g B N cap a m b : Nat) (P A C S : List Lab) (w : World) (ihk : SymSays K) (hK : A.length + C.length ≤ K + 1) (hg : B ≤ g) (hB : B ≤ w.heap.size) (ha : a = P.length) (hm : m = a + A.length) (hb : b = m + C.length) (hA2 : 2 ≤ A.length) (hC2 : 2 ≤ C.length) (hA : SortedN A) (hC : SortedN C) (hN : b ≤ N) (hn : N ≤ 4096) (hr : RowL g (P ++ A ++ C ++ S) w) (mid n p lo hi : Nat) (hmid : mid = (a + b) / 2) (hnn : n = mid + m) (hp : p = n - 1) (hcase : m ≤ mid ∧ lo = a ∧ hi = m) :
    Calls Tryd.prog 121 #[.slice (some ⟨g, 0, none⟩) N cap, .int .i64 (a : Int), .int .i64 (m : Int), .int .i64 (b : Int), .func (.func 80) #[] #[]] w fun e w' => e = .returned (.tuple #[]) ∧ (∃ D, RowL g (P ++ D ++ S) w' ∧ SortedN D ∧ Stb D (A ++ C) ∧ D.length = A.length + C.length) ∧ Below B w w' := by
  have HA := Lib.hid (And.intro ha (And.intro hm hb))
  obtain ⟨al, hal⟩ : ∃ al, A.length = al := ⟨_, rfl⟩
  obtain ⟨cl, hcl⟩ : ∃ cl, C.length = cl := ⟨_, rfl⟩
  have em1 : (m : Int) - (a : Int) = (al : Int) := by omega
  have em2 : (b : Int) - (m : Int) = (cl : Int) := by omega
  have n1 : ((al : Int) == 1) = false := by rw [beq_eq_false_iff_ne]; omega
  have n2 : ((cl : Int) == 1) = false := by rw [beq_eq_false_iff_ne]; omega
  have emid := half_eq a b mid hmid
  have en : (mid : Int) + (m : Int) = (n : Int) := by omega
  have ep : (n : Int) - 1 = (p : Int) := by omega
  have hpn : p + 1 ≤ n ∧ n ≤ p + 1 := by omega
  have hnm : n ≤ mid + m ∧ mid + m ≤ n := by omega
  have ham : a + 2 ≤ m := by omega
  have hmb : m + 2 ≤ b := by omega
  have hbound : a < mid ∧ mid < b := by omega
  have hlo : a ≤ lo := by omega
  have hlh : lo ≤ hi := by omega
  have hhm : hi ≤ m := by omega
  have hhmid : hi ≤ mid := by omega
  have hnlo : n ≤ lo + b := by omega
  have HEDGE : Hid ((lo = a ∨ n = lo + b) ∧ (hi = m ∨ hi = mid)) := by show _ ∧ _; omega
  have HR0 := Lib.hid hr
  have hab2 : a + b < 4294967296 := by omega
  obtain ⟨c1, c2, c3⟩ := hcase
  have hgt : ¬ (mid : Int) < (m : Int) := by omega
  have HLO : Hid ((a : Int) = (lo : Int)) := by show _ = _; omega
  have HHI : Hid ((m : Int) = (hi : Int)) := by show _ = _; omega
  clear hr ha hm hb hmid hnn hp c1 c2 c3
  go_enter Tryd.func121, Tryd.ntmps121
  go_wp2_with fail
  go_loopw [20, 21] (fun c d wr => ∃ s r : Nat, c = .int .i64 s ∧ d = .int .i64 r ∧ lo ≤ s ∧ s ≤ r ∧ r ≤ hi ∧ RowL g (P ++ A ++ C ++ S) wr ∧ Hid ((lo < s → ltN (atN C (p - (s - 1) - m)) (atN A (s - 1 - a)) = false) ∧ (r < hi → ltN (atN C (p - r - m)) (atN A (r - a)) = true)) ∧ Below B w wr) (fun c d _ => (intOf d).toNat - (intOf c).toNat)
  case atStart => exact ⟨lo, hi, by first | rfl | rw [HLO.out], by first | rfl | rw [HHI.out], by omega, by omega, by omega, HR0.out, ⟨fun h => by omega, fun h => by omega⟩, Below.refl _ _⟩
  case round =>
    obtain ⟨s, r, rfl, rfl, hlos, hsr, hrh, hrow, HI, hbw⟩ := hrel
    have hsz := hbw.size
    by_cases hlt : s < r
    ·
      --cut
      obtain ⟨h, hh⟩ : ∃ h, h = (s + r) / 2 := ⟨_, rfl⟩
      have eh := half_eq s r h hh
      have hih : s ≤ h := by omega
      have hhj : h < r := by omega
      obtain ⟨v, hv⟩ : ∃ v, v = p - h := ⟨_, rfl⟩
      have hvm : m ≤ v := by omega
      have hvb : v < b := by omega
      have ev : (p : Int) - (h : Int) = (v : Int) := by omega
      obtain ⟨y, hy⟩ : ∃ y, atN C (v - m) = y := ⟨_, rfl⟩
      obtain ⟨x, hx⟩ : ∃ x, atN A (h - a) = x := ⟨_, rfl⟩
      have h1 := HA.out
      have hyl : atN (P ++ A ++ C ++ S) v = y := by
        rw [show P ++ A ++ C ++ S = (P ++ A) ++ (C ++ S) by simp, atN_right (by simp; omega), atN_left (by simp; omega), ← hy]
        congr 1
        simp; omega
      have hxl : atN (P ++ A ++ C ++ S) h = x := by
        rw [show P ++ A ++ C ++ S = P ++ (A ++ (C ++ S)) by simp, atN_right (by omega), atN_left (by omega), ← hx, h1.1]
      have hll : (P ++ A ++ C ++ S).length = b + S.length := by simp; omega
      have hS : ∀ W, Below wr.heap.size wr W → W.cell? ⟨g, v * 2, none⟩ = some (.string (str y.1)) ∧ W.cell? ⟨g, v * 2 + 1, none⟩ = some (.string (str y.2)) ∧ W.cell? ⟨g, h * 2, none⟩ = some (.string (str x.1)) ∧ W.cell? ⟨g, h * 2 + 1, none⟩ = some (.string (str x.2)) ∧ Below wr.heap.size wr W := by
        intro W hW
        have hrW := hrow.below hW
        obtain ⟨y0, y1⟩ := hrW.gat (i := v) (by rw [hll]; omega) y hyl
        obtain ⟨x0, x1⟩ := hrW.gat (i := h) (by rw [hll]; omega) x hxl
        exact ⟨y0, y1, x0, x1, hW⟩
      have HS := Lib.hid hS
      have cc := fun W => cmp_c y x W
      obtain ⟨c, hc⟩ : ∃ c, cmpN y x = c := ⟨_, rfl⟩
      rw [hc] at cc
      have HC := Lib.hid hc
      have HY : Hid (atN C (p - h - m) = y ∧ atN A (h - a) = x) := ⟨by rw [← hv]; exact hy, hx⟩
      have HROW := Lib.hid hrow
      have ih : (0 : Int) ≤ (h : Int) ∧ (h : Int) < (N : Int) := by omega
      have iv : (0 : Int) ≤ (v : Int) ∧ (v : Int) < (N : Int) := by omega
      have wv : IntKind.i64.wrap (v : Int) = (v : Int) := IntWalk.i64_in _ (by omega)
      clear hS hc hrow hyl hxl hll hh hy hx hv h1
      go_wp2_with fail
      refine wp_region_held_drew (S := fun W => W.cell? ⟨g, v * 2, none⟩ = some (.string (str y.1)) ∧ W.cell? ⟨g, v * 2 + 1, none⟩ = some (.string (str y.2)) ∧ W.cell? ⟨g, h * 2, none⟩ = some (.string (str x.1)) ∧ W.cell? ⟨g, h * 2 + 1, none⟩ = some (.string (str x.2)) ∧ Below wr.heap.size wr W) (by kernel_rfl) (HS.out _ ((Below.refl _ _).drew)) (fun hHeld => ?_)
      refine held_w (i := 0) (d := some 158) (v := ?_) rfl (by kernel_rfl) (by kernel_rfl) (by kernel_rfl) (fun _ _ _ h => h) (by rfl) ?_ hHeld ?_
      rotate_left
      · intro w' hSw; obtain ⟨q0, q1, q2, q3, q4⟩ := hSw; simp only [List.getElem?_toArray, List.getElem?_cons_zero, List.getElem?_cons_succ]; go_simp; try with_reducible rfl
      try simp only [Act.put, List.setIfInBounds_toArray, List.set_cons_zero, List.set_cons_succ]
      refine held_w (i := 1) (d := some 159) (v := ?_) rfl (by kernel_rfl) (by kernel_rfl) (by kernel_rfl) (fun _ _ _ h => h) (by rfl) ?_ hHeld ?_
      rotate_left
      · intro w' hSw; obtain ⟨q0, q1, q2, q3, q4⟩ := hSw; simp only [List.getElem?_toArray, List.getElem?_cons_zero, List.getElem?_cons_succ]; go_simp; try with_reducible rfl
      try simp only [Act.put, List.setIfInBounds_toArray, List.set_cons_zero, List.set_cons_succ]
      refine held_w (i := 2) (d := some 160) (v := ?_) rfl (by kernel_rfl) (by kernel_rfl) (by kernel_rfl) (fun _ _ _ h => h) (by rfl) ?_ hHeld ?_
      rotate_left
      · intro w' hSw; obtain ⟨q0, q1, q2, q3, q4⟩ := hSw; simp only [List.getElem?_toArray, List.getElem?_cons_zero, List.getElem?_cons_succ]; go_simp; try with_reducible rfl
      try simp only [Act.put, List.setIfInBounds_toArray, List.set_cons_zero, List.set_cons_succ]
      refine held_w (i := 3) (d := some 161) (v := ?_) rfl (by kernel_rfl) (by kernel_rfl) (by kernel_rfl) (fun _ _ _ h => h) (by rfl) ?_ hHeld ?_
      rotate_left
      · intro w' hSw; obtain ⟨q0, q1, q2, q3, q4⟩ := hSw; simp only [List.getElem?_toArray, List.getElem?_cons_zero, List.getElem?_cons_succ]; go_simp; try with_reducible rfl
      try simp only [Act.put, List.setIfInBounds_toArray, List.set_cons_zero, List.set_cons_succ]
      refine held_w (i := 4) (d := some 162) (v := ?_) rfl (by kernel_rfl) (by kernel_rfl) (by kernel_rfl) (fun _ _ _ h => h) (by rfl) ?_ hHeld ?_
      rotate_left
      · intro w' hSw; obtain ⟨q0, q1, q2, q3, q4⟩ := hSw; simp only [List.getElem?_toArray, List.getElem?_cons_zero, List.getElem?_cons_succ]; go_simp; try with_reducible rfl
      try simp only [Act.put, List.setIfInBounds_toArray, List.set_cons_zero, List.set_cons_succ]
      refine held_w (i := 5) (d := some 163) (v := ?_) rfl (by kernel_rfl) (by kernel_rfl) (by kernel_rfl) (fun _ _ _ h => h) (by rfl) ?_ hHeld ?_
      rotate_left
      · intro w' hSw; obtain ⟨q0, q1, q2, q3, q4⟩ := hSw; simp only [List.getElem?_toArray, List.getElem?_cons_zero, List.getElem?_cons_succ]; go_simp; try with_reducible rfl
      try simp only [Act.put, List.setIfInBounds_toArray, List.set_cons_zero, List.set_cons_succ]
      refine held_w (i := 6) (d := some 164) (v := ?_) rfl (by kernel_rfl) (by kernel_rfl) (by kernel_rfl) (fun _ _ _ h => h) (by rfl) ?_ hHeld ?_
      rotate_left
      · intro w' hSw; obtain ⟨q0, q1, q2, q3, q4⟩ := hSw; simp only [List.getElem?_toArray, List.getElem?_cons_zero, List.getElem?_cons_succ]; go_simp; try with_reducible rfl
      try simp only [Act.put, List.setIfInBounds_toArray, List.set_cons_zero, List.set_cons_succ]
      refine held_w (i := 7) (d := some 165) (v := ?_) rfl (by kernel_rfl) (by kernel_rfl) (by kernel_rfl) (fun _ _ _ h => h) (by rfl) ?_ hHeld ?_
      rotate_left
      · intro w' hSw; obtain ⟨q0, q1, q2, q3, q4⟩ := hSw; simp only [List.getElem?_toArray, List.getElem?_cons_zero, List.getElem?_cons_succ]; go_simp; try with_reducible rfl
      try simp only [Act.put, List.setIfInBounds_toArray, List.set_cons_zero, List.set_cons_succ]
      refine held_w (i := 8) (d := some 166) (v := ?_) rfl (by kernel_rfl) (by kernel_rfl) (by kernel_rfl) (fun _ _ _ h => h) (by rfl) ?_ hHeld ?_
      rotate_left
      · intro w' hSw; obtain ⟨q0, q1, q2, q3, q4⟩ := hSw; simp only [List.getElem?_toArray, List.getElem?_cons_zero, List.getElem?_cons_succ]; go_simp; try with_reducible rfl
      try simp only [Act.put, List.setIfInBounds_toArray, List.set_cons_zero, List.set_cons_succ]
      refine held_w (i := 9) (d := some 167) (v := ?_) rfl (by kernel_rfl) (by kernel_rfl) (by kernel_rfl) (fun _ _ _ h => h) (by rfl) ?_ hHeld ?_
      rotate_left
      · intro w' hSw; obtain ⟨q0, q1, q2, q3, q4⟩ := hSw; simp only [List.getElem?_toArray, List.getElem?_cons_zero, List.getElem?_cons_succ]; go_simp; try with_reducible rfl
      try simp only [Act.put, List.setIfInBounds_toArray, List.set_cons_zero, List.set_cons_succ]
      refine held_w (i := 10) (d := some 168) (v := ?_) rfl (by kernel_rfl) (by kernel_rfl) (by kernel_rfl) (fun _ _ _ h => h) (by rfl) ?_ hHeld ?_
      rotate_left
      · intro w' hSw; obtain ⟨q0, q1, q2, q3, q4⟩ := hSw; simp only [List.getElem?_toArray, List.getElem?_cons_zero, List.getElem?_cons_succ]; go_simp; try with_reducible rfl
      try simp only [Act.put, List.setIfInBounds_toArray, List.set_cons_zero, List.set_cons_succ]
      refine held_c (i := 11) (by kernel_rfl) (by rfl) (fun K hK => ?_)
      simp only [List.getElem?_toArray, List.getElem?_cons_zero, List.getElem?_cons_succ]
      go_simp
      refine (cc _).mono ?_
      rintro e w3 ⟨rfl, hb3⟩
      have hb4 := hHeld.2.2.2.2.trans (hb3.mono hHeld.2.2.2.2.size)
      refine hK.out _ _ (HS.out _ hb4) (fun hHeld => ?_)
      clear hK hb3
      try simp only [Act.put, List.setIfInBounds_toArray, List.set_cons_zero, List.set_cons_succ]
      refine held_w (i := 12) (d := some 170) (v := ?_) rfl (by kernel_rfl) (by kernel_rfl) (by kernel_rfl) (fun _ _ _ h => h) (by rfl) ?_ hHeld ?_
      rotate_left
      · intro w' hSw; obtain ⟨q0, q1, q2, q3, q4⟩ := hSw; simp only [List.getElem?_toArray, List.getElem?_cons_zero, List.getElem?_cons_succ]; go_simp; try with_reducible rfl
      try simp only [Act.put, List.setIfInBounds_toArray, List.set_cons_zero, List.set_cons_succ]
      refine held_w (i := 13) (d := some 171) (v := ?_) rfl (by kernel_rfl) (by kernel_rfl) (by kernel_rfl) (fun _ _ _ h => h) (by rfl) ?_ hHeld ?_
      rotate_left
      · intro w' hSw; obtain ⟨q0, q1, q2, q3, q4⟩ := hSw; simp only [List.getElem?_toArray, List.getElem?_cons_zero, List.getElem?_cons_succ]; go_simp; try with_reducible rfl
      try simp only [Act.put, List.setIfInBounds_toArray, List.set_cons_zero, List.set_cons_succ]
      refine wpAnyH_done (by kernel_rfl) ?_ _
      skip
      have hbq := hHeld.2.2.2.2
      have hrW := Lib.hid (HROW.out.below hbq)
      have hbB : Below B w w3 := hbw.trans (hbq.mono (by have := hbw.size; omega))
      clear hHeld hb4 hbq
      cases hlt2 : ltN y x with
      | false =>
        have hcl0 : ¬ c < 0 := by rw [← HC.out]; exact cmpN_ge hlt2
        rw [decide_eq_false hcl0, Bool.not_false]
        clear hcl0
        have HI2 : Hid ((lo < h + 1 → ltN (atN C (p - (h + 1 - 1) - m)) (atN A (h + 1 - 1 - a)) = false) ∧ (r < hi → ltN (atN C (p - r - m)) (atN A (r - a)) = true)) := ⟨fun _ => by rw [Nat.add_sub_cancel, HY.out.1, HY.out.2]; exact hlt2, HI.out.2⟩
        clear hlt2
        go_wp2_with fail
        go_roundw
        case rel => exact ⟨h + 1, r, by go_num, rfl, by omega, by omega, hrh, hrW.out, HI2.out, hbB⟩
        case measure => simp [intOf]; omega
      | true =>
        have hcl0 : c < 0 := by rw [← HC.out]; exact cmpN_lt hlt2
        rw [decide_eq_true hcl0, Bool.not_true]
        clear hcl0
        have HI2 : Hid ((lo < s → ltN (atN C (p - (s - 1) - m)) (atN A (s - 1 - a)) = false) ∧ (h < hi → ltN (atN C (p - h - m)) (atN A (h - a)) = true)) := ⟨HI.out.1, fun _ => by rw [HY.out.1, HY.out.2]; exact hlt2⟩
        clear hlt2
        go_wp2_with fail
        go_roundw
        case rel => exact ⟨s, h, rfl, rfl, hlos, by omega, by omega, hrW.out, HI2.out, hbB⟩
        case measure => simp [intOf]; omega
      --uncut
    · obtain rfl : s = r := by omega
      obtain ⟨e, he⟩ : ∃ e, e = n - s := ⟨_, rfl⟩
      have ee : (n : Int) - (s : Int) = (e : Int) := by omega
      have hme : m ≤ e := by omega
      have heb : e ≤ b := by omega
      have has : a ≤ s := by omega
      have hsm : s ≤ m := by omega
      have hsmid : s ≤ mid := by omega
      have h1 := HA.out
      obtain ⟨A1, U, V, C2, cut⟩ := sym_cut (a := a) (m := m) (b := b) (mid := mid) (n := n) (p := p) (lo := lo) (hi := hi) (s := s) (e := e) hA hC h1.2.1 h1.2.2 hbound (by omega) (by omega) HEDGE.out hlos hrh hlo hhm hhmid hnlo he HI.out
      have CUT := Lib.hid cut
      have HROW := Lib.hid hrow
      clear cut hrow HI HEDGE he h1 hnlo hhm hhmid hlh hlo hrh hlos hnm hpn
      go_wp2_with (first
        | (go_at_call 131; refine (CUT.out.turned (S := S) hg (by have := hbw.size; omega) HA.out.1 hN hn HROW.out (by omega) (by omega) _).mono ?_; rintro _ w1 ⟨rfl, hr1, hb1⟩; have HT := Lib.hid hr1; have hbw := hbw.trans hb1; clear hr1 hb1; dsimp only)
        | (go_at_call_of 121 (Value.int IntKind.i64 (s : Int)); refine (CUT.out.left (S := S) ihk hK hg (by have := hbw.size; omega) HA.out.1 hN hn (by first | exact HT.out | exact CUT.out.still HROW.out (by omega)) (by omega) (by omega)).mono ?_; rintro _ w2 ⟨rfl, hr2, hb2⟩; have HD := Lib.hid hr2; have hbw := hbw.trans hb2; clear hr2 hb2; dsimp only)
        | (go_at_call_of 121 (Value.int IntKind.i64 (e : Int)); refine (CUT.out.right (S := S) ihk hK hg (by have := hbw.size; omega) HA.out.1 hN hn (by first | exact HD.out | exact CUT.out.unleft (by first | exact HT.out | exact CUT.out.still HROW.out (by omega)) (by omega)) (by omega) (by omega)).mono ?_; rintro _ w3 ⟨rfl, hr3, hb3⟩; have HE := Lib.hid hr3; have hbw := hbw.trans hb3; clear hr3 hb3; dsimp only))
      all_goals (go_end0; exact ⟨rfl, CUT.out.whole (by first | exact HE.out | exact CUT.out.unright (by first | exact HD.out | exact CUT.out.unleft (by first | exact HT.out | exact CUT.out.still HROW.out (by omega)) (by omega)) (by omega)), hbw⟩)
end Go.Proofs.YtdbifbgjbfnfmaaDoor
