/-
  Layer 4 (label): the law LabelOne returns true.
-/
import Derived.Test.YtejmkboballonaaDoorLabelP
import Derived.Test.YtejmkboballonaaDoorLabelG
namespace Go.Proofs.YtejmkboballonaaDoor
open Go.RowKit Go.Deep
attribute [local go_sem] str_size str_append str_toList str_get str_extract
set_option linter.unusedVariables false
set_option linter.unusedSimpArgs false
theorem less_self (a : List UInt8) : Op.bytesLess a a = false := by
  induction a with
  | nil => rfl
  | cons c a ih =>
    have h : (c < c) = False := by simp
    simp only [Op.bytesLess, ih, Bool.and_false, Bool.or_false, h, decide_false]
theorem okL_one (n v : List UInt8) : okL [(n, v)] = (nameL n && (valueL v && !(v == []))) := by
  rw [okL_of (by simp)]
  simp only [okFrom, Bool.and_true]
  cases hN : nameL n with
  | false => rfl
  | true => rw [less_nil (nameL_ne hN)]; simp
theorem okL_two (n v : List UInt8) : okL [(n, v), (n, v)] = false := by
  rw [okL_of (by simp)]
  simp only [okFrom, less_self, Bool.and_true, Bool.and_false]
theorem lat_one (w : World) (n v : List UInt8) (g : Nat) (h : w.heap[g]? = some (.cells #[.string (str n), .string (str v)] 34 (0, 0))) (h1 : n.length ≤ 4096) (h2 : v.length ≤ 4096) : LAt w (some ⟨g, 0, none⟩) 1 [(n, v)] := by
  refine ⟨rfl, fun i hi => ?_⟩
  obtain rfl : i = 0 := by simp at hi; omega
  refine ⟨⟨by simp; omega, by simp; omega⟩, _, rfl, ?_, ?_, ?_⟩
  · exact lt_of_block h
  · exact blk_cell h 0
  · exact blk_cell h 1
theorem lat_two (w : World) (n v : List UInt8) (g : Nat) (h : w.heap[g]? = some (.cells #[.string (str n), .string (str v), .string (str n), .string (str v)] 34 (0, 0))) (h1 : n.length ≤ 4096) (h2 : v.length ≤ 4096) : LAt w (some ⟨g, 0, none⟩) 2 [(n, v), (n, v)] := by
  refine ⟨rfl, fun i hi => ?_⟩
  match i, hi with
  | 0, _ => exact ⟨⟨by simp; omega, by simp; omega⟩, _, rfl, lt_of_block h, blk_cell h 0, blk_cell h 1⟩
  | 1, _ => exact ⟨⟨by simp; omega, by simp; omega⟩, _, rfl, lt_of_block h, blk_cell h 2, blk_cell h 3⟩
set_option maxHeartbeats 1000000 in
theorem law_LabelOne (a0 : ByteArray) (a1 : ByteArray) (w : World) (w0 : a0.size ≤ maxLen) (w1 : a1.size ≤ maxLen) (hT : Lib.Utf8Tabs 0 1 w) :
    Calls Tryd.prog 7 #[.string a0, .string a1] w fun e w' => e = .returned (.bool true) ∧ Below w.heap.size w w' := by
  obtain ⟨n, rfl⟩ := str_of a0
  obtain ⟨v, rfl⟩ := str_of a1
  rw [str_size] at w0 w1
  unfold maxLen at w0 w1
  by_cases hs : 1024 < (n.length : Int)
  · go_enter Tryd.func7, Tryd.ntmps7
    go_wp2
    go_ret
    exact ⟨rfl, Below.refl _ _⟩
  by_cases hs2 : 1024 < (v.length : Int)
  · go_enter Tryd.func7, Tryd.ntmps7
    go_wp2
    go_ret
    exact ⟨rfl, Below.refl _ _⟩
  have c1 := fun W A h1 h2 => print_c A 1 1 [(n, v)] W (by omega) h1 (by intro x hx; simp at hx; subst hx; exact ⟨by simp; omega, by simp; omega⟩) h2
  have c2 := fun W => refName_c n W (by omega)
  have c3 := fun W => refValue_c v W (by omega)
  have c4 := fun W A h1 h2 => check_c A 2 2 [(n, v), (n, v)] W (by omega) h1 (by intro x hx; simp at hx; subst hx; exact ⟨by simp; omega, by simp; omega⟩) h2
  have c5 := fun W => quote_c v W (by omega)
  have c6 := fun W A h1 => get_c A 1 1 [(n, v)] n W (by omega) h1 (by intro x hx; simp at hx; subst hx; exact ⟨by simp; omega, by simp; omega⟩)
  rw [okL_two] at c4
  have hg : getL [(n, v)] n = v := by simp [getL]
  rw [hg] at c6
  have hpl : printL [(n, v)] = 123 :: (n ++ 61 :: (quoteL v ++ [125])) := by simp [printL, printB, partL, tailB]
  rw [hpl] at c1
  have hok := okL_one n v
  have hql := quoteL_len v
  obtain ⟨Q, hQ⟩ := (⟨_, rfl⟩ : ∃ Q, quoteL v = Q)
  rw [hQ] at c5 c1 hql
  have b0 := blk_new w (.cells #[.string (str n), .string (str v)] 34)
  obtain ⟨wa, hwa⟩ : ∃ wa, wa = w.alloc (.cells #[.string (str n), .string (str v)] 34) := ⟨_, rfl⟩
  have b1 := blk_new wa (.cells #[.string (str n), .string (str v), .string (str n), .string (str v)] 34)
  have hwas : wa.heap.size = w.heap.size + 1 := by rw [hwa]; simp
  rw [← hwa] at b0
  obtain ⟨wb, hwb⟩ : ∃ wb, wb = wa.alloc (.cells #[.string (str n), .string (str v), .string (str n), .string (str v)] 34) := ⟨_, rfl⟩
  have hwbs : wb.heap.size = w.heap.size + 1 + 1 := by rw [hwb]; simp; omega
  have b0' : wb.heap[w.heap.size]? = some (.cells #[.string (str n), .string (str v)] 34 (0, 0)) := by rw [hwb]; exact blk_alloc b0 _
  rw [← hwb, hwas] at b1
  have hbw : Below w.heap.size w wb := by rw [hwb, hwa]; exact ((Below.refl _ _).alloc (Nat.le_refl _) _).alloc (by simp) _
  have hTb := Utf8Tabs_below hT hbw
  rw [hwa] at hwb
  clear b0 hpl hQ hg hwa hwas
  have l1 : ∀ W, Below wb.heap.size wb W → LAt W (some ⟨w.heap.size, 0, none⟩) 1 [(n, v)] := fun W hW => lat_one W n v w.heap.size ((hW.block _ (by omega)).trans b0') (by omega) (by omega)
  have l2 : ∀ W, Below wb.heap.size wb W → LAt W (some ⟨w.heap.size + 1, 0, none⟩) 2 [(n, v), (n, v)] := fun W hW => lat_two W n v (w.heap.size + 1) ((hW.block _ (by omega)).trans b1) (by omega) (by omega)
  have HL1 := Lib.hid l1
  have HL2 := Lib.hid l2
  have HWB := Lib.hid hwb
  clear l1 l2 b0' b1 hwb
  cases hO : okL [(n, v)] with
  | false =>
    rw [hO] at c1
    rw [hO] at hok
    have HOK := Lib.hid hok
    clear hok
    go_enter Tryd.func7, Tryd.ntmps7
    go_wp2_with fail
    rw [← HWB.out]
    refine (c1 _ _ (HL1.out _ (Below.refl _ _)) hTb).mono ?_
    rintro e w3 ⟨rfl, hb3⟩
    have hT3 := Utf8Tabs_below hTb hb3
    have e0 : eOf false = 40 := rfl
    rw [e0]
    rw [e0] at c4
    cases hN : nameL n with
    | false =>
      rw [hN] at c2
      go_wp2_with (first | (go_at_call 9; refine (c2 _).mono ?_; rintro e w4 ⟨rfl, rfl⟩) | (go_at_call 19; refine (c4 _ _ (HL2.out _ hb3) hT3).mono ?_; rintro e w5 ⟨rfl, hb5⟩))
      go_ret
      exact ⟨rfl, hbw.trans ((hb3.mono (by omega)).trans (hb5.mono (by have := hb3.size; omega)))⟩
    | true =>
    rw [hN] at c2
    cases hV : valueL v with
    | false =>
      rw [hV] at c3
      go_wp2_with (first | (go_at_call 9; refine (c2 _).mono ?_; rintro e w4 ⟨rfl, rfl⟩) | (go_at_call 11; refine (c3 _).mono ?_; rintro e w4 ⟨rfl, rfl⟩) | (go_at_call 19; refine (c4 _ _ (HL2.out _ hb3) hT3).mono ?_; rintro e w5 ⟨rfl, hb5⟩))
      go_ret
      exact ⟨rfl, hbw.trans ((hb3.mono (by omega)).trans (hb5.mono (by have := hb3.size; omega)))⟩
    | true =>
      rw [hV] at c3
      have hv0 : (v == []) = true := by
        have hok := HOK.out
        rw [hN, hV] at hok
        revert hok
        cases (v == []) <;> simp
      have hv1 : (v != []) = false := by rw [bne, hv0]; rfl
      obtain rfl : v = [] := by simpa using hv0
      go_wp2_with (first | (go_at_call 9; refine (c2 _).mono ?_; rintro e w4 ⟨rfl, rfl⟩) | (go_at_call 11; refine (c3 _).mono ?_; rintro e w4 ⟨rfl, rfl⟩) | (go_at_call 19; refine (c4 _ _ (HL2.out _ hb3) hT3).mono ?_; rintro e w5 ⟨rfl, hb5⟩))
      go_ret
      exact ⟨rfl, hbw.trans ((hb3.mono (by omega)).trans (hb5.mono (by have := hb3.size; omega)))⟩
  | true =>
    rw [hO] at c1 hok
    replace hok := hok.symm
    simp only [Bool.and_eq_true] at hok
    rw [hok.1] at c2
    rw [hok.2.1] at c3
    have hvne : ¬ v = [] := by simpa using hok.2.2
    have hve : v.isEmpty = false := by cases v with | nil => exact absurd rfl hvne | cons c r => rfl
    have hQl : Q.length ≤ 3000 := by omega
    go_enter Tryd.func7, Tryd.ntmps7
    go_wp2_with fail
    rw [← HWB.out]
    refine (c1 _ _ (HL1.out _ (Below.refl _ _)) hTb).mono ?_
    rintro e w3 ⟨rfl, hb3⟩
    have hT3 := Utf8Tabs_below hTb hb3
    have e0 : eOf false = 40 := rfl
    have e1 : eOf true = 0 := rfl
    rw [if_pos trivial, e1]
    rw [e0] at c4
    have hcat : ({ data := #[123] } : ByteArray) ++ str n ++ { data := #[61] } ++ str Q ++ { data := #[125] } = str (123 :: (n ++ 61 :: (Q ++ [125]))) := by
      show str [123] ++ str n ++ str [61] ++ str Q ++ str [125] = _
      rw [str_append, str_append, str_append, str_append]
      simp
    clear c1 hok hql
    go_wp2_with (first | (go_at_call 9; refine (c2 _).mono ?_; rintro e w4 ⟨rfl, rfl⟩) | (go_at_call 11; refine (c3 _).mono ?_; rintro e w4 ⟨rfl, rfl⟩) | (go_at_call 19; refine (c4 _ _ (HL2.out _ hb3) hT3).mono ?_; rintro e w5 ⟨rfl, hb5⟩; have hb35 := hb3.trans (hb5.mono hb3.size)) | (go_at_call 12; refine (c5 _).mono ?_; rintro e w6 ⟨rfl, hb6⟩; have hb36 := hb35.trans (hb6.mono hb35.size)) | (go_at_call 23; refine (c6 _ _ (HL1.out _ hb36)).mono ?_; rintro e w7 ⟨rfl, hb7⟩))
    go_ret
    exact ⟨by simp, hbw.trans ((hb36.trans (hb7.mono hb36.size)).mono (by omega))⟩
end Go.Proofs.YtejmkboballonaaDoor
