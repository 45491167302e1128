/-
  Layer 4 (label): a row of labels sorted: blocks of twenty, then merged in pairs.
-/
import Derived.Test.YtopnnhjfcfhihaaLabelSymD
import Derived.Test.YtopnnhjfcfhihaaLabelIns
namespace Go.Proofs.Ytopnnhjfcfhihaa
open Go.RowKit Go.Deep
attribute [local go_sem] str_size str_append str_toList str_get str_extract
set_option linter.unusedVariables false
set_option linter.unusedSimpArgs false
/-- Sorted blocks of k labels each. -/
def Blk (k : Nat) (bs : List (List Lab)) : Prop := ∀ b ∈ bs, b.length = k ∧ SortedN b
theorem Blk.snoc {k : Nat} {bs : List (List Lab)} {c : List Lab} (h : Blk k bs) (hc : c.length = k) (hs : SortedN c) : Blk k (bs ++ [c]) := by
  intro b hb
  rcases List.mem_append.1 hb with hb | hb
  · exact h b hb
  · simp at hb; subst hb; exact ⟨hc, hs⟩
theorem Blk.nil {k : Nat} : Blk k [] := fun b hb => by simp at hb
theorem Blk.head {k : Nat} {b : List Lab} {bs : List (List Lab)} (h : Blk k (b :: bs)) : b.length = k ∧ SortedN b ∧ Blk k bs :=
  ⟨(h b (by simp)).1, (h b (by simp)).2, fun c hc => h c (by simp [hc])⟩
/-- A row is cut: sorted blocks of k, and a sorted rest that is shorter. -/
def Cut (k : Nat) (l : List Lab) : Prop := ∃ bs r, l = bs.flatten ++ r ∧ Blk k bs ∧ SortedN r ∧ r.length < k
theorem Cut.done {k : Nat} {l : List Lab} (h : Cut k l) (hl : l.length ≤ k) : SortedN l := by
  obtain ⟨bs, r, rfl, hb, hr, hk⟩ := h
  match bs, hb with
  | [], _ => simpa using hr
  | [b], hb =>
    have h1 := hb.head
    have : r = [] := List.eq_nil_of_length_eq_zero (by simp at hl; omega)
    subst this
    simpa using h1.2.1
  | b :: c :: bs, hb =>
    have h1 := hb.head
    have h2 := h1.2.2.head
    simp at hl
    have := h1.1; have := h2.1
    have : k = 0 := by omega
    omega
/-- Of a cut row's blocks the first ones have been merged in pairs. -/
def Half (k a : Nat) (l : List Lab) : Prop := ∃ cs bs r, l = cs.flatten ++ (bs.flatten ++ r) ∧ cs.flatten.length = a ∧ Blk (2 * k) cs ∧ Blk k bs ∧ SortedN r ∧ r.length < k
theorem Cut.half {k : Nat} {l : List Lab} (h : Cut k l) : Half k 0 l := by
  obtain ⟨bs, r, rfl, hb, hr, hk⟩ := h
  exact ⟨[], bs, r, by simp, rfl, Blk.nil, hb, hr, hk⟩
/-- The next two blocks. -/
theorem Half.two {k a : Nat} {l : List Lab} (h : Half k a l) (hl : a + 2 * k ≤ l.length) : ∃ P A C S, l = P ++ A ++ C ++ S ∧ P.length = a ∧ A.length = k ∧ C.length = k ∧ SortedN A ∧ SortedN C ∧ ∀ D, SortedN D → D.length = A.length + C.length → Half k (a + 2 * k) (P ++ D ++ S) := by
  obtain ⟨cs, bs, r, rfl, ha, hc, hb, hr, hk⟩ := h
  match bs, hb with
  | [], _ => simp at hl ha; omega
  | [b], hb =>
    have h1 := hb.head.1
    simp at hl ha; omega
  | b :: c :: bs, hb =>
    have h1 := hb.head
    have h2 := h1.2.2.head
    refine ⟨cs.flatten, b, c, bs.flatten ++ r, by simp, ha, h1.1, h2.1, h1.2.1, h2.2.1, fun D hD hl => ⟨cs ++ [D], bs, r, by simp, ?_, hc.snoc ?_ hD, h2.2.2, hr, hk⟩⟩
    · rw [List.flatten_append, List.length_append, ha]; simp; have := h1.1; have := h2.1; omega
    · have := h1.1; have := h2.1; omega
/-- What is left: a block and a rest. -/
theorem Half.last {k a : Nat} {l : List Lab} (h : Half k a l) (hl : l.length < a + 2 * k) (hm : a + k < l.length) : ∃ P A C, l = P ++ A ++ C ∧ P.length = a ∧ A.length = k ∧ 1 ≤ C.length ∧ SortedN A ∧ SortedN C ∧ ∀ D, SortedN D → D.length = A.length + C.length → Cut (2 * k) (P ++ D) := by
  obtain ⟨cs, bs, r, rfl, ha, hc, hb, hr, hk⟩ := h
  match bs, hb with
  | [], _ => simp at hl hm ha; omega
  | [b], hb =>
    have h1 := hb.head
    have h2 := h1.1
    simp at hl hm ha
    refine ⟨cs.flatten, b, r, by simp, by simpa using ha, h1.1, by omega, h1.2.1, hr, fun D hD hl => ⟨cs, D, rfl, hc, hD, by omega⟩⟩
  | b :: c :: bs, hb =>
    have h1 := hb.head
    have h2 := h1.2.2.head
    have := h1.1; have := h2.1
    simp at hl ha; omega
theorem Half.still {k a : Nat} {l : List Lab} (h : Half k a l) (hl : l.length < a + 2 * k) (hm : l.length ≤ a + k) : Cut (2 * k) l := by
  obtain ⟨cs, bs, r, rfl, ha, hc, hb, hr, hk⟩ := h
  match bs, hb with
  | [], _ => exact ⟨cs, r, by simp, hc, hr, by omega⟩
  | [b], hb =>
    have h1 := hb.head
    have h2 := h1.1
    have : r = [] := List.eq_nil_of_length_eq_zero (by simp at hm ha; omega)
    subst this
    exact ⟨cs, b, by simp, hc, h1.2.1, by omega⟩
  | b :: c :: bs, hb =>
    have h1 := hb.head
    have h2 := h1.2.2.head
    have := h1.1; have := h2.1
    simp at hl ha; omega
set_option maxRecDepth 100000 in
set_option maxHeartbeats 8000000 in
theorem stable_c (g B N cap : Nat) (L : List Lab) (w : World) (hg : B ≤ g) (hB : B ≤ w.heap.size) (hN : L.length = N) (hcap : N ≤ cap) (hn : N ≤ 4096) (hr : RowL g L w) :
    Calls Try.prog 26 #[.slice (some ⟨g, 0, none⟩) N cap, .int .i64 (N : Int), .func (.func 20) #[] #[]] w fun e w' => e = .returned (.tuple #[]) ∧ (∃ D, RowL g D w' ∧ SortedN D ∧ Stb D L ∧ D.length = L.length) ∧ Below B w w' := by
  have HR0 := Lib.hid hr
  clear hr
  go_enter Try.func26, Try.ntmps26
  go_wp2_with fail
  go_loopw [7, 8] (fun c d wr => ∃ a b : Nat, c = .int .i64 a ∧ d = .int .i64 b ∧ (a + 20 ≤ b ∧ b ≤ a + 20) ∧ a ≤ N ∧ Hid (∃ bs R, bs.flatten.length = a ∧ Blk 20 bs ∧ RowL g (bs.flatten ++ R) wr ∧ Stb (bs.flatten ++ R) L ∧ a + R.length = N) ∧ Below B w wr) (fun c d _ => N + 20 - (intOf d).toNat)
  case atStart => exact ⟨0, 20, rfl, rfl, by omega, by omega, ⟨[], L, rfl, Blk.nil, by simpa using HR0.out, by simpa using Stb.refl L, by omega⟩, Below.refl _ _⟩
  case round =>
    obtain ⟨a, b, rfl, rfl, hb, haN, H, hbw⟩ := hrel
    have hsz := hbw.size
    obtain ⟨bs, R, h1, h2, h3, h4, h5⟩ := H.out
    by_cases hlt : b ≤ N
    · have hRA : R.take 20 ++ R.drop 20 = R := List.take_append_drop 20 R
      have lA : (R.take 20).length = 20 := by rw [List.length_take]; omega
      have lS : (R.drop 20).length + 20 = R.length := by rw [List.length_drop]; omega
      generalize R.take 20 = A at *
      generalize R.drop 20 = S at *
      subst hRA
      have hins := insertion_c g B N cap bs.flatten A S wr hg (by omega) (by rw [List.length_append] at h5; omega) hcap hn (by simpa using h3)
      rw [lA, h1, show a + 20 = b by omega] at hins
      have HINS := Lib.hid hins
      have HALL := Lib.hid (And.intro h1 (And.intro h2 (And.intro h4 (And.intro h5 lA))))
      obtain ⟨b2, hb2⟩ : ∃ b2, b2 = b + 20 := ⟨_, rfl⟩
      have ebb : (b : Int) + 20 = (b2 : Int) := by omega
      have hbb : b + 20 ≤ b2 ∧ b2 ≤ b + 20 := by omega
      clear hins h1 h2 h3 h4 h5 lA lS H hb2
      go_wp2_with (go_at_call 33; refine HINS.out.mono ?_; rintro _ w1 ⟨rfl, hr1, hb1⟩; have HC := Lib.hid hr1; have hbw := hbw.trans hb1; clear hr1 hb1; dsimp only)
      go_roundw
      case rel =>
        obtain ⟨C, r1, r2, r3, r4⟩ := HC.out
        obtain ⟨h1, h2, h4, h5, lA⟩ := HALL.out
        exact ⟨b, b2, rfl, rfl, by omega, by omega, ⟨bs ++ [C], S, by rw [List.flatten_append, List.length_append, h1]; simp; omega, h2.snoc r4 r2, by simpa using r1, Stb.trans (by simpa using Stb.append (Stb.append (Stb.refl bs.flatten) r3) (Stb.refl S)) h4, by simp at h5; omega⟩, hbw⟩
      case measure => simp [intOf]; omega
    · have hins := insertion_c g B N cap bs.flatten R [] wr hg (by omega) (by rw [List.length_nil]; omega) hcap hn (by simpa using h3)
      rw [h1, h5] at hins
      have HINS := Lib.hid hins
      have HALL := Lib.hid (And.intro h1 (And.intro h2 (And.intro h4 h5)))
      clear hins h1 h2 h3 h4 h5 H
      go_wp2_with (go_at_call 33; refine HINS.out.mono ?_; rintro _ w1 ⟨rfl, hr1, hb1⟩; have HC := Lib.hid hr1; have hbw1 := hbw.trans hb1; clear hr1 hb1; dsimp only)
      have HS : Hid (∃ D, RowL g D w1 ∧ Cut 20 D ∧ Stb D L ∧ D.length = N) := by
        show ∃ D, _
        obtain ⟨C, r1, r2, r3, r4⟩ := HC.out
        obtain ⟨h1, h2, h4, h5⟩ := HALL.out
        exact ⟨bs.flatten ++ C, by simpa using r1, ⟨bs, C, rfl, h2, r2, by omega⟩, Stb.trans (Stb.append (Stb.refl _) r3) h4, by rw [List.length_append, h1, r4, h5]⟩
      clear HC HALL HINS
      obtain ⟨wo, rfl⟩ : ∃ wo : World, wo = wr := ⟨_, rfl⟩
      clear hlt haN hsz hb
      go_loopw [6] (fun c wr => ∃ k : Nat, c = .int .i64 k ∧ 20 ≤ k ∧ k ≤ 8192 ∧ Hid (∃ D, RowL g D wr ∧ Cut k D ∧ Stb D L ∧ D.length = N) ∧ Below B w wr) (fun c _ => N - (intOf c).toNat)
      case atStart => exact ⟨20, rfl, by omega, by omega, HS, hbw1⟩
      case round =>
        clear HS hbw hbw1
        obtain ⟨k, rfl, hk1, hk2, HD, hbw⟩ := hrel
        by_cases hkn : k < N
        · obtain ⟨k2, hkk⟩ : ∃ k2, k2 = 2 * k := ⟨_, rfl⟩
          have HK := Lib.hid hkk
          have e2 : 2 * (k : Int) = (k2 : Int) := by omega
          have e3 : (k : Int) * 2 = (k2 : Int) := by omega
          have hkb : 2 * k ≤ k2 ∧ k2 ≤ 2 * k := by omega
          clear hkk
          go_wp2_with fail
          obtain ⟨wp, rfl⟩ : ∃ wp : World, wp = wr := ⟨_, rfl⟩
          go_loopw [7, 8] (fun c d wr => ∃ a b : Nat, c = .int .i64 a ∧ d = .int .i64 b ∧ (a + k2 ≤ b ∧ b ≤ a + k2) ∧ a ≤ N ∧ Hid (∃ D, RowL g D wr ∧ Half k a D ∧ Stb D L ∧ D.length = N) ∧ Below B w wr) (fun c d _ => N + k2 - (intOf d).toNat)
          case atStart => exact ⟨0, k2, rfl, rfl, by omega, by omega, (by obtain ⟨D, d1, d2, d3⟩ := HD.out; exact ⟨D, d1, d2.half, d3⟩), hbw⟩
          case round =>
            clear HD hbw
            obtain ⟨a, b, rfl, rfl, hb, haN, H, hbw⟩ := hrel
            have hsz := hbw.size
            obtain ⟨m, hm⟩ : ∃ m, m = a + k := ⟨_, rfl⟩
            have em : (a : Int) + (k : Int) = (m : Int) := by omega
            have hmm : a + k ≤ m ∧ m ≤ a + k := by omega
            have HM := Lib.hid hm
            clear hm
            obtain ⟨D, d1, d2, d3, d4⟩ := H.out
            by_cases hlt : b ≤ N
            · obtain ⟨P, A, C, S, rfl, lP, lA, lC, sA, sC, hnext⟩ := d2.two (by omega)
              have hmer := symm_c (A.length + C.length) g B N cap a m b P A C S wr (Nat.le_refl _) hg (by omega) lP.symm (by omega) (by omega) (by omega) (by omega) sA sC hlt hn d1
              have HMER := Lib.hid hmer
              have HNX := Lib.hid hnext
              have HALL := Lib.hid (And.intro d3 (And.intro d4 (And.intro lA lC)))
              obtain ⟨b2, hb2⟩ : ∃ b2, b2 = b + k2 := ⟨_, rfl⟩
              have ebb : (b : Int) + (k2 : Int) = (b2 : Int) := by omega
              have hbb : b + k2 ≤ b2 ∧ b2 ≤ b + k2 := by omega
              clear hmer hnext d1 d2 d3 d4 lP lA lC sA sC H hb2
              go_wp2_with (go_at_call 34; refine HMER.out.mono ?_; rintro _ w1 ⟨rfl, hr1, hb1⟩; have HC := Lib.hid hr1; have hbw := hbw.trans hb1; clear hr1 hb1; dsimp only)
              go_roundw
              case rel =>
                obtain ⟨D, r1, r2, r3, r4⟩ := HC.out
                obtain ⟨d3, d4, lA, lC⟩ := HALL.out
                refine ⟨b, b2, rfl, rfl, by omega, hlt, ⟨P ++ D ++ S, r1, ?_, Stb.trans (by simpa using Stb.append (Stb.append (Stb.refl P) r3) (Stb.refl S)) d3, by simp at d4 ⊢; omega⟩, hbw⟩
                have := HNX.out D r2 r4
                rw [show b = a + 2 * k by omega]
                exact this
              case measure => simp [intOf]; omega
            · by_cases hmn : m < N
              · obtain ⟨P, A, C, rfl, lP, lA, lC, sA, sC, hnext⟩ := d2.last (by omega) (by omega)
                have hmer := symm_c (A.length + C.length) g B N cap a m N P A C [] wr (Nat.le_refl _) hg (by omega) lP.symm (by omega) (by simp at d4; omega) (by omega) (by omega) sA sC (Nat.le_refl _) hn (by simpa using d1)
                have HMER := Lib.hid hmer
                have HNX := Lib.hid hnext
                have HALL := Lib.hid (And.intro d3 (And.intro d4 lA))
                clear hmer hnext d1 d2 d3 d4 lP lA lC sA sC H
                go_wp2_with (go_at_call 34; refine HMER.out.mono ?_; rintro _ w1 ⟨rfl, hr1, hb1⟩; have HC := Lib.hid hr1; have hbw := hbw.trans hb1; clear hr1 hb1; dsimp only)
                go_roundw
                case rel =>
                  obtain ⟨D, r1, r2, r3, r4⟩ := HC.out
                  obtain ⟨d3, d4, lA⟩ := HALL.out
                  refine ⟨k2, rfl, by omega, by omega, ⟨P ++ D, by simpa using r1, ?_, Stb.trans (by simpa using Stb.append (Stb.refl P) r3) d3, by simp at d4 ⊢; omega⟩, hbw⟩
                  rw [HK.out]; exact HNX.out D r2 r4
                case measure => simp [intOf]; omega
              · have hc : Cut k2 D := by rw [HK.out]; exact d2.still (by omega) (by omega)
                have HC : Hid (∃ D, RowL g D wr ∧ Cut k2 D ∧ Stb D L ∧ D.length = N) := ⟨D, d1, hc, d3, d4⟩
                clear d1 d2 d3 d4 H hc
                go_wp2_with fail
                go_roundw
                case rel => exact ⟨k2, rfl, by omega, by omega, HC, hbw⟩
                case measure => simp [intOf]; omega
        · have HE : Hid (∃ D, RowL g D wr ∧ SortedN D ∧ Stb D L ∧ D.length = L.length) := by
            show ∃ D, _
            obtain ⟨D, d1, d2, d3, d4⟩ := HD.out
            exact ⟨D, d1, d2.done (by omega), d3, by omega⟩
          clear HD
          go_wp2_with fail
          go_end0
          exact ⟨rfl, HE.out, hbw⟩
theorem sortStable_c (g B N cap : Nat) (L : List Lab) (w : World) (hg : B ≤ g) (hB : B ≤ w.heap.size) (hN : L.length = N) (hcap : N ≤ cap) (hn : N ≤ 4096) (hr : RowL g L w) :
    Calls Try.prog 19 #[.slice (some ⟨g, 0, none⟩) N cap, .func (.func 20) #[] #[]] w fun e w' => e = .returned (.tuple #[]) ∧ (∃ D, RowL g D w' ∧ SortedN D ∧ Stb D L ∧ D.length = L.length) ∧ Below B w w' := by
  have HST := Lib.hid (stable_c g B N cap L w hg hB hN hcap hn hr)
  clear hN hr
  go_enter Try.func19, Try.ntmps19
  go_wp2_with (go_at_call 26; refine HST.out.mono ?_; rintro _ w1 ⟨rfl, hr1, hb1⟩; have HC := Lib.hid hr1; dsimp only)
  go_end0
  exact ⟨rfl, HC.out, hb1⟩
end Go.Proofs.Ytopnnhjfcfhihaa
