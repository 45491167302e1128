/-
  Layer 9 (block): the steps of a law in memory; how heavy they are; bounds that stay.
-/
import Derived.Test.YtndmndchbfmppaaBlockPure
import Derived.Test.YtndmndchbfmppaaTsMem
import Derived.Lib.MinMax
namespace Go.Proofs.Ytndmndchbfmppaa
open Go.RowKit Go.Deep
attribute [local go_sem] str_size str_append str_toList str_get str_extract
set_option linter.unusedVariables false
set_option linter.unusedSimpArgs false
/-- A step: its kind, its number, its text, what is kept. -/
abbrev BStp := Int × Int × List UInt8 × Nat
/-- A slice of steps that was there. -/
def BsAt (w : World) (A : Option Addr) (len : Nat) (l : List BStp) : Prop :=
  len = l.length ∧ ∀ i (h : i < l.length), (l[i].2.2.1.length ≤ 9223372036854775807 ∧ l[i].2.2.2 < 18446744073709551616 ∧ -9223372036854775808 ≤ l[i].1 ∧ l[i].1 ≤ 9223372036854775807 ∧ -9223372036854775808 ≤ l[i].2.1 ∧ l[i].2.1 ≤ 9223372036854775807) ∧
    ∃ ad, A = some ad ∧ (ad.add (i * 4)).block < w.heap.size ∧ w.cell? (ad.add (i * 4)) = some (.int .i64 l[i].1) ∧ w.cell? ⟨(ad.add (i * 4)).block, (ad.add (i * 4)).off + 1, none⟩ = some (.int .i64 l[i].2.1) ∧
      w.cell? ⟨(ad.add (i * 4)).block, (ad.add (i * 4)).off + 2, none⟩ = some (.string (str l[i].2.2.1)) ∧ w.cell? ⟨(ad.add (i * 4)).block, (ad.add (i * 4)).off + 3, none⟩ = some (.int .u64 (l[i].2.2.2 : Int))
theorem BsAt.below {w w' : World} {A : Option Addr} {len : Nat} {l : List BStp} (h : BsAt w A len l) (hb : Below w.heap.size w w') : BsAt w' A len l :=
  ⟨h.1, fun i hi => by
    obtain ⟨h1, ad, rfl, h2, h3, h4, h5, h6⟩ := h.2 i hi
    exact ⟨h1, ad, rfl, Nat.lt_of_lt_of_le h2 hb.size, (hb.cell (p := ad.add (i * 4)) h2).trans h3, (hb.cell (p := ⟨(ad.add (i * 4)).block, (ad.add (i * 4)).off + 1, none⟩) h2).trans h4,
      (hb.cell (p := ⟨(ad.add (i * 4)).block, (ad.add (i * 4)).off + 2, none⟩) h2).trans h5, (hb.cell (p := ⟨(ad.add (i * 4)).block, (ad.add (i * 4)).off + 3, none⟩) h2).trans h6⟩⟩
theorem BsAt.nil (w : World) (A : Option Addr) : BsAt w A 0 [] := ⟨rfl, fun i h => by simp at h⟩
/-- One step: its cells, whatever has come since. -/
theorem BsAt.cells4 {w : World} {A : Option Addr} {len : Nat} {l : List BStp} (h : BsAt w A len l) (i : Nat) (hi : i < l.length) : ∃ (ad : Addr) (kd I : Int) (s : Byts) (keep : Nat), A = some ad ∧ l[i] = (kd, I, s, keep) ∧
    (s.length ≤ 9223372036854775807 ∧ keep < 18446744073709551616 ∧ -9223372036854775808 ≤ kd ∧ kd ≤ 9223372036854775807 ∧ -9223372036854775808 ≤ I ∧ I ≤ 9223372036854775807) ∧
    ∀ W, Below w.heap.size w W → W.cell? (ad.add (i * 4)) = some (.int .i64 kd) ∧ W.cell? ⟨(ad.add (i * 4)).block, (ad.add (i * 4)).off + 1, none⟩ = some (.int .i64 I) ∧ W.cell? ⟨(ad.add (i * 4)).block, (ad.add (i * 4)).off + 2, none⟩ = some (.string (str s)) ∧ W.cell? ⟨(ad.add (i * 4)).block, (ad.add (i * 4)).off + 3, none⟩ = some (.int .u64 (keep : Int)) := by
  obtain ⟨b, ad, rfl, -⟩ := h.2 i hi
  refine ⟨ad, l[i].1, l[i].2.1, l[i].2.2.1, l[i].2.2.2, rfl, rfl, b, fun W hW => ?_⟩
  obtain ⟨_, ad', ea, _, h3, h4, h5, h6⟩ := (h.below hW).2 i hi
  injection ea with ea
  subst ea
  exact ⟨h3, h4, h5, h6⟩
/-- What 'heavy' counts. -/
def heavyN : List BStp → Nat → Nat
  | [], n => n
  | x :: l, n => if n ≤ 16384 then heavyN l (n + min x.2.2.1.length 1048576) else n
def heavyB (l : List BStp) : Bool := decide (16384 < heavyN l (min l.length 1048576)) || decide (200 < l.length)
theorem heavyN_big (l : List BStp) (n : Nat) (h : ¬ n ≤ 16384) : heavyN l n = n := by
  cases l with
  | nil => rfl
  | cons x l => unfold heavyN; rw [if_neg h]
theorem heavyB_small {l : List BStp} (h : heavyB l = false) : l.length ≤ 200 := by
  unfold heavyB at h
  simp at h
  exact h.2
theorem bheavy_c (A : Option Addr) (len cap : Nat) (l : List BStp) (w : World) (hl : l.length ≤ 9223372036854775807) (hA : BsAt w A len l) :
    Calls Try.prog 8 #[.slice A len cap] w fun e w' => e = .returned (.bool (heavyB l)) ∧ w = w' := by
  have hle := hA.1
  subst hle
  obtain ⟨R, hR⟩ : ∃ R, heavyB l = R := ⟨_, rfl⟩
  obtain ⟨N, hN⟩ : ∃ N, heavyN l (min l.length 1048576) = N := ⟨_, rfl⟩
  have hRN : (decide (16384 < N) || decide (200 < l.length)) = R := by rw [← hR, ← hN]; rfl
  rw [hR]
  obtain ⟨n0, hn0⟩ : ∃ n0 : Nat, min l.length 1048576 = n0 := ⟨_, rfl⟩
  have d0 : min (l.length : Int) 1048576 = (n0 : Int) := by omega
  rw [hn0] at hN
  have hn1 : n0 ≤ 1048576 := by omega
  have HN := Lib.hid hN
  have HRN := Lib.hid hRN
  clear hn0 hN hR hRN
  go_enter Try.func8, Try.ntmps8
  go_wp2_with fail
  go_loopw [3, 4] (fun v c wr => ∃ (i n : Nat), i ≤ l.length ∧ c = .int .i64 i ∧ v = .int .i64 n ∧ n ≤ 1064960 ∧ Hid (heavyN (l.drop i) n = N) ∧ w = wr) (fun _ c _ => l.length - (intOf c).toNat)
  case atStart => exact ⟨0, n0, Nat.zero_le _, rfl, rfl, by omega, HN.out, rfl⟩
  case round =>
    obtain ⟨i, n, hi, rfl, rfl, hn, HI, rfl⟩ := hrel
    by_cases hlt : i < l.length
    · have b1 : decide ((i : Int) < (l.length : Int)) = true := by simpa using hlt
      by_cases hle : n ≤ 16384
      · have b2 : decide ((n : Int) ≤ 16384) = true := by simpa using by omega
        obtain ⟨⟨r, -⟩, ad, rfl, h2, -, -, h3, -⟩ := hA.2 i hlt
        have ht := HI.out
        rw [List.drop_eq_getElem_cons hlt] at ht
        unfold heavyN at ht
        rw [if_pos hle] at ht
        obtain ⟨x, hx⟩ : ∃ x, (l[i]'hlt).2.2.1 = x := ⟨_, rfl⟩
        rw [hx] at r h3 ht
        obtain ⟨m, hm⟩ : ∃ m : Nat, min x.length 1048576 = m := ⟨_, rfl⟩
        rw [hm] at ht
        have d1 : min (x.length : Int) 1048576 = (m : Int) := by omega
        have hmm : m ≤ 1048576 := by omega
        have HM := Lib.hid ht
        clear ht hx hm
        go_wp2_with fail
        go_roundw
        case rel => exact ⟨i + 1, n + m, by omega, by go_num, by go_num, by omega, HM.out, trivial⟩
        case measure => simp [intOf]; omega
      · have b2 : decide ((n : Int) ≤ 16384) = false := by simpa using by omega
        have e := HI.out
        rw [heavyN_big _ _ hle] at e
        have t1 : decide (16384 < n) = true := by simpa using by omega
        have t2 : R = true := by rw [← HRN.out, ← e, t1]; rfl
        subst t2
        clear e t1
        go_wp2_with fail
        go_ret
        exact ⟨by simp [go_sem]; try omega, rfl⟩
    · have b1 : decide ((i : Int) < (l.length : Int)) = false := by simpa using hlt
      obtain rfl : i = l.length := by omega
      have e := HI.out
      rw [List.drop_length] at e
      have e2 : n = N := e
      have t1 : (decide (16384 < n) || decide (200 < l.length)) = R := by rw [e2]; exact HRN.out
      have HT := Lib.hid t1
      clear e e2 t1
      by_cases hq : 16384 < n
      · have b3 : decide ((16384 : Int) < (n : Int)) = true := by simpa using by omega
        have t2 : R = true := by rw [← HT.out]; simp [hq]
        subst t2
        go_wp2_with fail
        go_ret
        exact ⟨by simp [go_sem]; try omega, rfl⟩
      · have b3 : decide ((16384 : Int) < (n : Int)) = false := by simpa using by omega
        have t2 : decide (200 < l.length) = R := by rw [← HT.out]; simp [hq]
        have HT2 := Lib.hid t2
        clear t2
        go_wp2_with fail
        go_ret
        exact ⟨ret_bool (by rw [← HT2.out]; exact decide_eq_decide.2 (by omega)), rfl⟩
/-! bounds that stay -/
def Fit (S : DSt) (c : Nat) : Prop := S.calls ≤ c ∧ ∀ j, (S.wt j).length ≤ c
theorem Fit.mono {S : DSt} {c d : Nat} (h : Fit S c) (hd : c ≤ d) : Fit S d := ⟨by have := h.1; omega, fun j => by have := h.2 j; omega⟩
theorem fit_new (n : Int) (c : Nat) : Fit (newD n) c := ⟨Nat.zero_le _, fun j => Nat.zero_le _⟩
theorem fit_down {S : DSt} {c keep : Nat} (h : Fit S c) : Fit (downD S keep) c := by
  unfold downD
  split
  · exact h
  · exact ⟨h.1, fun j => Nat.zero_le _⟩
theorem fit_count {S : DSt} {c : Nat} (h : Fit S c) : Fit (countD S).2 (c + 1) := by
  unfold countD
  split
  · exact ⟨by have := h.1; show _ + 1 ≤ _; omega, fun j => by have := h.2 j; show (S.wt j).length ≤ _; omega⟩
  · split
    · exact fit_down ⟨by have := h.1; show _ + 1 ≤ _; omega, fun j => by have := h.2 j; show (S.wt j).length ≤ _; omega⟩
    · exact ⟨by have := h.1; show _ + 1 ≤ _; omega, fun j => by have := h.2 j; show (S.wt j).length ≤ _; omega⟩
theorem fit_put {S : DSt} {c i : Nat} {s : List UInt8} (h : Fit S c) : Fit (putD S i s) (c + 1) :=
  ⟨by have := h.1; show S.calls ≤ _; omega, fun j => by
    have h1 := h.2 j
    have h2 := h.2 i
    show (updW S.wt i (S.wt i ++ [s]) j).length ≤ _
    unfold updW
    split
    · rw [List.length_append]; simp; omega
    · omega⟩
theorem fit_write {S : DSt} {c : Nat} {i : Int} {s : List UInt8} (h : Fit S c) : Fit (writeD S i s).2 (c + 2) := by
  unfold writeD
  split
  · exact h.mono (by omega)
  · split
    · exact h.mono (by omega)
    · have := fit_count (fit_put (i := i.toNat) (s := s) h)
      split <;> exact this
theorem fit_flush {S : DSt} {c : Nat} (h : Fit S c) : Fit (flushD S).2 (c + 2) := by
  unfold flushD
  split
  · exact h.mono (by omega)
  · split
    · exact (fit_count h).mono (by omega)
    · have := fit_count h
      exact ⟨by have := this.1; show (countD S).2.calls ≤ _; omega, fun j => Nat.zero_le _⟩
theorem fit_cut {S : DSt} {c keep : Nat} {n : Int} (h : Fit S c) : Fit (cutD S n keep) c := h
theorem fit_power {S : DSt} {c : Nat} (h : Fit S c) : Fit (powerD S) c := h
end Go.Proofs.Ytndmndchbfmppaa
