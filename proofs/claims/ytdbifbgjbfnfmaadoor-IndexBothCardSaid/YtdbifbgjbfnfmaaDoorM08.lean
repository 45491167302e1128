/-
  Texts of the same seat, one behind the other (merged; each says at its head what it is).
-/
import Derived.Test.YtdbifbgjbfnfmaaDoorM02
import Derived.Test.YtdbifbgjbfnfmaaDoorM01
import Derived.Test.YtdbifbgjbfnfmaaDoorM05
import Derived.Lib.IndexMore
import Derived.Lib.Strings
/-
  Layer 4 (label): what the program's Check returns; all that was in memory stays.
-/
namespace Go.Proofs.YtdbifbgjbfnfmaaDoor
open Go.RowKit Go.Deep
attribute [local go_sem] str_size str_append str_toList str_get str_extract
set_option linter.unusedVariables false
set_option linter.unusedSimpArgs false
set_option maxHeartbeats 1000000 in
theorem check_c (A : Option Addr) (len cap : Nat) (l : List Lab) (w : World) (hl : len ≤ 140737488355328) (hA : LAt w A len l) (hz : ∀ x ∈ l, x.1.length ≤ 16384 ∧ x.2.length ≤ 16384) (hT : Lib.Utf8Tabs 1 2 w) :
    Calls Tryd.prog 57 #[.slice A len cap] w fun e w' => e = .returned (.int .i64 (eOf (okL l))) ∧ Below w.heap.size w w' := by
  have hle := hA.1
  subst hle
  by_cases h8 : 8 < (l.length : Int)
  · rw [okL_long (by omega)]
    go_enter Tryd.func57, Tryd.ntmps57
    go_wp2
    go_ret
    exact ⟨rfl, Below.refl _ _⟩
  rw [okL_of (by omega)]
  obtain ⟨R, hR⟩ : ∃ R, okFrom [] l = R := ⟨_, rfl⟩
  rw [hR]
  have HR := Lib.hid hR
  clear hR
  go_enter Tryd.func57, Tryd.ntmps57
  go_wp2_with fail
  go_loopw [3, 11] (fun a c wr => ∃ i : Nat, ∃ p : List UInt8, i ≤ l.length ∧ c = .int .i64 i ∧ a = .string (str p) ∧ p.length ≤ 16384 ∧ Hid (okFrom p (l.drop i) = R) ∧ Below w.heap.size w wr) (fun _ c _ => l.length - (intOf c).toNat)
  case atStart => exact ⟨0, [], Nat.zero_le _, rfl, rfl, by simp, HR.out, Below.refl _ _⟩
  case round =>
    obtain ⟨i, p, hi, rfl, rfl, hp, HI, hb⟩ := hrel
    have hsz := hb.size
    by_cases hlt : i < l.length
    · obtain ⟨-, ad, rfl, h2, h3, h4⟩ := (hA.below hb).2 i hlt
      have hT2 := Utf8Tabs_below hT hb
      have hst := okFrom_at (a := p) hlt
      rw [HI.out] at hst
      obtain ⟨z1, z2⟩ := hz _ (List.getElem_mem hlt)
      obtain ⟨x, hx⟩ : ∃ x, l[i]'hlt = x := ⟨_, rfl⟩
      rw [hx] at hst h3 h4 z1 z2
      obtain ⟨n, v⟩ := x
      simp only at hst h3 h4 z1 z2
      have hord := less_trans_like n p
      have HST := Lib.hid hst
      have HORD := Lib.hid hord
      have c1 := fun W => name_c n W (by omega)
      have c2 := fun W h => value_c v W (by omega) h
      have hq0 := blk_new wr (.cells #[.string (str n), .string (str v)] 60)
      have hTa : Lib.Utf8Tabs 1 2 (wr.alloc (.cells #[.string (str n), .string (str v)] 60)) := Utf8Tabs_below hT2 ((Below.refl _ _).alloc (Nat.le_refl _) _)
      have hba : Below w.heap.size w (wr.alloc (.cells #[.string (str n), .string (str v)] 60)) := hb.alloc hsz _
      have hsa : w.heap.size ≤ (wr.alloc (.cells #[.string (str n), .string (str v)] 60)).heap.size := by simp; omega
      clear hst hord hx
      cases hN : nameL n with
      | false =>
        have e := HST.out
        rw [hN, Bool.false_and] at e
        subst e
        rw [hN] at c1
        clear hN c2 hTa
        go_wp2_with (go_at_call 59; refine (c1 _).mono ?_; rintro e w1 ⟨rfl, hb1⟩; have hq1 : w1.heap[wr.heap.size]? = some (.cells #[.string (str n), .string (str v)] 60 (0, 0)) := (hb1.block _ (by simp)).trans hq0; have d0 := blk_cell hq1 0; have d1 := blk_cell hq1 1; simp only [List.getElem?_toArray, List.getElem?_cons_zero, List.getElem?_cons_succ] at d0 d1)
        go_ret
        exact ⟨rfl, hba.trans (hb1.mono hsa)⟩
      | true =>
      rw [hN] at c1
      cases hV : valueL v with
      | false =>
        have e := HST.out
        rw [hN, hV, Bool.true_and, Bool.false_and] at e
        subst e
        rw [hV] at c2
        clear hN hV
        go_wp2_with (first | (go_at_call 59; refine (c1 _).mono ?_; rintro e w1 ⟨rfl, hb1⟩; have hq1 : w1.heap[wr.heap.size]? = some (.cells #[.string (str n), .string (str v)] 60 (0, 0)) := (hb1.block _ (by simp)).trans hq0; have d0 := blk_cell hq1 0; have d1 := blk_cell hq1 1; simp only [List.getElem?_toArray, List.getElem?_cons_zero, List.getElem?_cons_succ] at d0 d1) | (go_at_call 82; refine (c2 _ (Utf8Tabs_below hTa hb1)).mono ?_; rintro e w2 ⟨rfl, hb2⟩; have hq2 : w2.heap[wr.heap.size]? = some (.cells #[.string (str n), .string (str v)] 60 (0, 0)) := (hb2.block _ (lt_of_block hq1)).trans hq1; have f0 := blk_cell hq2 0; have f1 := blk_cell hq2 1; simp only [List.getElem?_toArray, List.getElem?_cons_zero, List.getElem?_cons_succ] at f0 f1))
        go_ret
        exact ⟨rfl, (hba.trans (hb1.mono hsa)).trans (hb2.mono (by have := hb1.size; omega))⟩
      | true =>
      rw [hV] at c2
      have hne := nameL_ne hN
      by_cases hv0 : v = []
      · have e := HST.out
        rw [hN, hV, Bool.true_and, Bool.true_and, hv0] at e
        simp only [beq_self_eq_true, Bool.not_true, Bool.false_and] at e
        subst e
        clear hN hV
        have tv : (v == []) = true := by rw [hv0]; rfl
        clear hv0
        go_wp2_with (first | (go_at_call 59; refine (c1 _).mono ?_; rintro e w1 ⟨rfl, hb1⟩; have hq1 : w1.heap[wr.heap.size]? = some (.cells #[.string (str n), .string (str v)] 60 (0, 0)) := (hb1.block _ (by simp)).trans hq0; have d0 := blk_cell hq1 0; have d1 := blk_cell hq1 1; simp only [List.getElem?_toArray, List.getElem?_cons_zero, List.getElem?_cons_succ] at d0 d1) | (go_at_call 82; refine (c2 _ (Utf8Tabs_below hTa hb1)).mono ?_; rintro e w2 ⟨rfl, hb2⟩; have hq2 : w2.heap[wr.heap.size]? = some (.cells #[.string (str n), .string (str v)] 60 (0, 0)) := (hb2.block _ (lt_of_block hq1)).trans hq1; have f0 := blk_cell hq2 0; have f1 := blk_cell hq2 1; simp only [List.getElem?_toArray, List.getElem?_cons_zero, List.getElem?_cons_succ] at f0 f1))
        go_ret
        exact ⟨rfl, (hba.trans (hb1.mono hsa)).trans (hb2.mono (by have := hb1.size; omega))⟩
      have tv : (v == []) = false := by rw [beq_eq_false_iff_ne]; exact hv0
      cases hL : Op.bytesLess p n with
      | false =>
        have e := HST.out
        rw [hN, hV, hL, Bool.true_and, Bool.true_and, tv, Bool.false_and, Bool.and_false] at e
        subst e
        have tl : (Op.bytesLess n p || n == p) = true := by have := HORD.out; rw [hL] at this; revert this; generalize (Op.bytesLess n p || n == p) = q; cases q <;> simp
        clear hN hV hL hv0
        go_wp2_with (first | (go_at_call 59; refine (c1 _).mono ?_; rintro e w1 ⟨rfl, hb1⟩; have hq1 : w1.heap[wr.heap.size]? = some (.cells #[.string (str n), .string (str v)] 60 (0, 0)) := (hb1.block _ (by simp)).trans hq0; have d0 := blk_cell hq1 0; have d1 := blk_cell hq1 1; simp only [List.getElem?_toArray, List.getElem?_cons_zero, List.getElem?_cons_succ] at d0 d1) | (go_at_call 82; refine (c2 _ (Utf8Tabs_below hTa hb1)).mono ?_; rintro e w2 ⟨rfl, hb2⟩; have hq2 : w2.heap[wr.heap.size]? = some (.cells #[.string (str n), .string (str v)] 60 (0, 0)) := (hb2.block _ (lt_of_block hq1)).trans hq1; have f0 := blk_cell hq2 0; have f1 := blk_cell hq2 1; simp only [List.getElem?_toArray, List.getElem?_cons_zero, List.getElem?_cons_succ] at f0 f1))
        go_ret
        exact ⟨rfl, (hba.trans (hb1.mono hsa)).trans (hb2.mono (by have := hb1.size; omega))⟩
      | true =>
        have e := HST.out
        rw [hN, hV, hL, Bool.true_and, Bool.true_and, tv, Bool.true_and, Bool.not_false, Bool.true_and] at e
        have HE := Lib.hid e
        have tl : (Op.bytesLess n p || n == p) = false := by have := HORD.out; rw [hL] at this; revert this; generalize (Op.bytesLess n p || n == p) = q; cases q <;> simp
        clear hN hV hL hv0 e
        go_wp2_with (first | (go_at_call 59; refine (c1 _).mono ?_; rintro e w1 ⟨rfl, hb1⟩; have hq1 : w1.heap[wr.heap.size]? = some (.cells #[.string (str n), .string (str v)] 60 (0, 0)) := (hb1.block _ (by simp)).trans hq0; have d0 := blk_cell hq1 0; have d1 := blk_cell hq1 1; simp only [List.getElem?_toArray, List.getElem?_cons_zero, List.getElem?_cons_succ] at d0 d1) | (go_at_call 82; refine (c2 _ (Utf8Tabs_below hTa hb1)).mono ?_; rintro e w2 ⟨rfl, hb2⟩; have hq2 : w2.heap[wr.heap.size]? = some (.cells #[.string (str n), .string (str v)] 60 (0, 0)) := (hb2.block _ (lt_of_block hq1)).trans hq1; have f0 := blk_cell hq2 0; have f1 := blk_cell hq2 1; simp only [List.getElem?_toArray, List.getElem?_cons_zero, List.getElem?_cons_succ] at f0 f1))
        go_roundw
        case rel => exact ⟨i + 1, n, by omega, by go_num, rfl, z1, HE.out.symm, (hba.trans (hb1.mono hsa)).trans (hb2.mono (by have := hb1.size; omega))⟩
        case measure => simp [intOf]; omega
    · obtain rfl : i = l.length := by omega
      have e := HI.out
      rw [okFrom_end] at e
      subst e
      go_wp2_with fail
      go_ret
      exact ⟨rfl, hb⟩
end Go.Proofs.YtdbifbgjbfnfmaaDoor
/-
  Layer 4 (label): what the program's Print returns; all that was in memory stays.
-/
namespace Go.Proofs.YtdbifbgjbfnfmaaDoor
open Go.RowKit Go.Deep
attribute [local go_sem] str_size str_append str_toList str_get str_extract
set_option linter.unusedVariables false
set_option linter.unusedSimpArgs false
theorem str_info : (Tryd.prog.info? 9).map (fun i => (i.zero, i.size, i.bytes)) = some (some (.string (str [])), 1, 16) := by kernel_rfl
def partsC (l : List Lab) : List Value := l.map fun x => .string (str (partL x))
theorem partsC_take {l : List Lab} {i : Nat} (h : i < l.length) : partsC (l.take (i + 1)) = partsC (l.take i) ++ [.string (str (l[i].1 ++ 61 :: quoteL l[i].2))] := by
  unfold partsC; rw [List.take_succ_eq_append_getElem h, List.map_append]; rfl
theorem str_data' (l : List UInt8) : (str l).data.toList = l := str_data l
theorem ownLt {w : World} {base : Nat} {e : TypeId} {size : Nat} {v : Value} {n : Nat} {xs : List Value} (h : w.ownsRow base e size v n xs) : ∀ k, v.ownBlock = some k → k < w.heap.size := by
  intro k hk
  rcases h.2 with ⟨rfl, _⟩ | ⟨g, c, cur, rfl, _, hg, _⟩
  · simp [Value.ownBlock] at hk
  · simp [Value.ownBlock] at hk
    subst hk
    exact lt_of_block hg
set_option maxRecDepth 100000 in
set_option maxHeartbeats 1000000 in
theorem print_c (A : Option Addr) (len cap : Nat) (l : List Lab) (w : World) (hl : len ≤ 140737488355328) (hA : LAt w A len l) (hz : ∀ x ∈ l, x.1.length ≤ 16384 ∧ x.2.length ≤ 16384) (hT : Lib.Utf8Tabs 1 2 w) :
    Calls Tryd.prog 44 #[.slice A len cap] w fun e w' => e = .returned (.tuple #[.string (str (if okL l = true then printL l else [])), .int .i64 (eOf (okL l))]) ∧ Below w.heap.size w w' := by
  have c0 := fun W h1 h2 => check_c A len cap l W hl h1 hz h2
  have hle := hA.1
  subst hle
  obtain ⟨i0, hi0, hz0, hz1, hz2⟩ := info_parts str_info
  cases hO : okL l with
  | false =>
    rw [hO] at c0
    go_enter Tryd.func44, Tryd.ntmps44
    go_wp2_with fail
    refine (c0 _ hA hT).mono ?_
    rintro e w1 ⟨rfl, hb1⟩
    go_wp2_with fail
    go_ret2
    exact ⟨rfl, hb1⟩
  | true =>
  rw [hO] at c0
  have hl8 := okL_len hO
  have hp83 := partL_ok hO
  obtain ⟨R, hR⟩ : ∃ R, printL l = R := ⟨_, rfl⟩
  rw [if_pos rfl, hR]
  have HR := Lib.hid hR
  have HP := Lib.hid hp83
  clear hR hp83 hO
  go_enter Tryd.func44, Tryd.ntmps44
  go_wp2_with fail
  refine (c0 _ hA hT).mono ?_
  rintro e w1 ⟨rfl, hb1⟩
  have e0 : eOf true = 0 := rfl
  rw [e0]
  clear c0 e0
  go_wp2_with fail
  obtain ⟨wo, rfl⟩ : ∃ wo : World, wo = w1 := ⟨_, rfl⟩
  go_loopw [5, 15] (fun v c wr => ∃ i : Nat, i ≤ l.length ∧ c = .int .i64 i ∧ wr.ownsRow w.heap.size 9 1 v i (partsC (l.take i)) ∧ (v = .slice none 0 0 ∨ ∃ g cp, v = .slice (some ⟨g, 0, none⟩) i cp) ∧ Below w.heap.size w wr) (fun _ c _ => l.length - (intOf c).toNat)
  case atStart => exact ⟨0, Nat.zero_le _, rfl, ⟨rfl, .inl ⟨rfl, rfl⟩⟩, .inl rfl, hb1⟩
  case round =>
    obtain ⟨i, hi, rfl, hown, hv, hb⟩ := hrel
    have hsz := hb.size
    by_cases hlt : i < l.length
    · obtain ⟨-, ad, rfl, h2, h3, h4⟩ := (hA.below hb).2 i hlt
      have hst := partsC_take hlt
      obtain ⟨z1, z2⟩ := hz _ (List.getElem_mem hlt)
      have hpl := HP.out _ (List.getElem_mem hlt)
      obtain ⟨x, hx⟩ : ∃ x, l[i]'hlt = x := ⟨_, rfl⟩
      rw [hx] at hst h3 h4 z1 z2 hpl
      obtain ⟨n, v1⟩ := x
      simp only at hst h3 h4 z1 z2
      have HST := Lib.hid hst
      have c1 := fun W => quote_c v1 W (by omega)
      have hq0 := blk_new wr (.cells #[.string (str n), .string (str v1)] 60)
      have hba : Below w.heap.size w (wr.alloc (.cells #[.string (str n), .string (str v1)] 60)) := hb.alloc hsz _
      have hsa : w.heap.size ≤ (wr.alloc (.cells #[.string (str n), .string (str v1)] 60)).heap.size := by simp; omega
      have HO := Lib.hid (hown.alloc (.cells #[.string (str n), .string (str v1)] 60))
      have hlow := Lib.hid (ownLow hown)
      have hlt1 := Lib.hid (ownLt hown)
      have hql := quoteL_len v1
      obtain ⟨Q, hQ⟩ : ∃ Q, quoteL v1 = Q := ⟨_, rfl⟩
      rw [hQ] at c1 HST hql
      have HX : Hid (str n ++ { data := #[61] } ++ str Q = str (n ++ 61 :: Q)) := by show _ = _; rw [show ({ data := #[61] } : ByteArray) = str [61] from rfl, str_append, str_append, List.append_assoc]; rfl
      have k1 : ¬ (9223372036854775807 < n.length + 1) := by omega
      have k2 : ¬ (9223372036854775807 < n.length + 1 + Q.length) := by omega
      clear hst hx hown hQ hpl
      have d0 := blk_cell hq0 0
      have d1 := blk_cell hq0 1
      simp only [List.getElem?_toArray, List.getElem?_cons_zero, List.getElem?_cons_succ] at d0 d1
      rcases hv with rfl | ⟨g, cp, rfl⟩
      all_goals
        go_wp2_with fail
        refine wp_region_held_drew (S := fun w' => w'.cell? ⟨wr.heap.size, 0, none⟩ = some (.string (str n)) ∧ w'.cell? ⟨wr.heap.size, 1, none⟩ = some (.string (str v1)) ∧ True) (by kernel_rfl) ⟨d0, d1, trivial⟩ (fun hHeld => ?_)
        refine held_w (i := 0) (d := some 19) (v := ?_) rfl (by kernel_rfl) (by kernel_rfl) (by kernel_rfl) (fun _ _ _ h => h) (by rfl) ?_ hHeld ?_
        rotate_left
        · intro w' hSw; obtain ⟨q0, q1, q2⟩ := hSw; simp only [List.getElem?_toArray, List.getElem?_cons_zero, List.getElem?_cons_succ]; go_simp; try with_reducible rfl
        try simp only [Act.put, List.setIfInBounds_toArray, List.set_cons_zero, List.set_cons_succ]
        refine held_w (i := 1) (d := some 20) (v := ?_) rfl (by kernel_rfl) (by kernel_rfl) (by kernel_rfl) (fun _ _ _ h => h) (by rfl) ?_ hHeld ?_
        rotate_left
        · intro w' hSw; obtain ⟨q0, q1, q2⟩ := hSw; simp only [List.getElem?_toArray, List.getElem?_cons_zero, List.getElem?_cons_succ]; go_simp; try with_reducible rfl
        try simp only [Act.put, List.setIfInBounds_toArray, List.set_cons_zero, List.set_cons_succ]
        refine held_w (i := 2) (d := some 21) (v := ?_) rfl (by kernel_rfl) (by kernel_rfl) (by kernel_rfl) (fun _ _ _ h => h) (by rfl) ?_ hHeld ?_
        rotate_left
        · intro w' hSw; obtain ⟨q0, q1, q2⟩ := hSw; simp only [List.getElem?_toArray, List.getElem?_cons_zero, List.getElem?_cons_succ]; go_simp; try with_reducible rfl
        try simp only [Act.put, List.setIfInBounds_toArray, List.set_cons_zero, List.set_cons_succ]
        refine held_w (i := 3) (d := some 22) (v := ?_) rfl (by kernel_rfl) (by kernel_rfl) (by kernel_rfl) (fun _ _ _ h => h) (by rfl) ?_ hHeld ?_
        rotate_left
        · intro w' hSw; obtain ⟨q0, q1, q2⟩ := hSw; simp only [List.getElem?_toArray, List.getElem?_cons_zero, List.getElem?_cons_succ]; go_simp; try with_reducible rfl
        try simp only [Act.put, List.setIfInBounds_toArray, List.set_cons_zero, List.set_cons_succ]
        refine held_w (i := 4) (d := some 23) (v := ?_) rfl (by kernel_rfl) (by kernel_rfl) (by kernel_rfl) (fun _ _ _ h => h) (by rfl) ?_ hHeld ?_
        rotate_left
        · intro w' hSw; obtain ⟨q0, q1, q2⟩ := hSw; simp only [List.getElem?_toArray, List.getElem?_cons_zero, List.getElem?_cons_succ]; go_simp; try with_reducible rfl
        try simp only [Act.put, List.setIfInBounds_toArray, List.set_cons_zero, List.set_cons_succ]
        refine held_w (i := 5) (d := some 24) (v := ?_) rfl (by kernel_rfl) (by kernel_rfl) (by kernel_rfl) (fun _ _ _ h => h) (by rfl) ?_ hHeld ?_
        rotate_left
        · intro w' hSw; obtain ⟨q0, q1, q2⟩ := hSw; simp only [List.getElem?_toArray, List.getElem?_cons_zero, List.getElem?_cons_succ]; go_simp; try with_reducible rfl
        try simp only [Act.put, List.setIfInBounds_toArray, List.set_cons_zero, List.set_cons_succ]
        refine held_c (i := 6) (by kernel_rfl) (by rfl) (fun K hK => ?_)
        simp only [List.getElem?_toArray, List.getElem?_cons_zero, List.getElem?_cons_succ]
        go_simp
        refine (c1 _).mono ?_
        rintro e w2 ⟨rfl, hb2⟩
        have hb2' := below_of_drew hb2
        have hlb : wr.heap.size < (wr.alloc (.cells #[.string (str n), .string (str v1)] 60)).heap.size := by simp
        have hf : ∀ W, Below (wr.alloc (.cells #[.string (str n), .string (str v1)] 60)).heap.size (wr.alloc (.cells #[.string (str n), .string (str v1)] 60)) W → W.cell? ⟨wr.heap.size, 0, none⟩ = some (.string (str n)) ∧ W.cell? ⟨wr.heap.size, 1, none⟩ = some (.string (str v1)) ∧ True := fun W hW => ⟨(hW.cell (p := ⟨wr.heap.size, 0, none⟩) hlb).trans d0, (hW.cell (p := ⟨wr.heap.size, 1, none⟩) hlb).trans d1, trivial⟩
        have HF := Lib.hid hf
        have hb3 := hb2'.alloc hb2'.size (.cells #[.string (str n ++ { data := #[61] } ++ str Q)] 9)
        have HO3 := Lib.hid (((Keeps.below (F := []) hb2').row HO.out (by simp)).alloc (.cells #[.string (str n ++ { data := #[61] } ++ str Q)] 9))
        refine hK.out _ _ (HF.out _ hb2') (fun hHeld => ?_)
        clear hK K hf
        try simp only [Act.put, List.setIfInBounds_toArray, List.set_cons_zero, List.set_cons_succ]
        refine held_w (i := 7) (d := some 26) (v := ?_) rfl (by kernel_rfl) (by kernel_rfl) (by kernel_rfl) (fun _ _ _ h => h) (by rfl) ?_ hHeld ?_
        rotate_left
        · intro w' hSw; obtain ⟨q0, q1, q2⟩ := hSw; simp only [List.getElem?_toArray, List.getElem?_cons_zero, List.getElem?_cons_succ]; go_simp; try with_reducible rfl
        try simp only [Act.put, List.setIfInBounds_toArray, List.set_cons_zero, List.set_cons_succ]
        refine held_c (i := 8) (by kernel_rfl) (by rfl) (fun K hK => ?_)
        simp only [List.getElem?_toArray, List.getElem?_cons_zero, List.getElem?_cons_succ]
        go_simp
        refine hK.out _ _ (HF.out _ hb3) (fun hHeld => ?_)
        clear hK K
        try simp only [Act.put, List.setIfInBounds_toArray, List.set_cons_zero, List.set_cons_succ]
        refine held_c (i := 9) (by kernel_rfl) (by rfl) (fun K hK => ?_)
        simp only [List.getElem?_toArray, List.getElem?_cons_zero, List.getElem?_cons_succ]
        refine wp_append_lies _ (.tmp 19) (.tmp 27) 45 rfl w.heap.size 9 i0 (.string (str [])) 1 16 Tryd.underlying45 hi0 hz0 hz1 hz2 rfl (by decide) _ i (partsC (l.take i)) rfl HO3.out ⟨w2.heap.size, 0, none⟩ 1 1 [.string (str n ++ { data := #[61] } ++ str Q)] rfl rfl (cell_one_new _ _ _) (by intro u hu; simp at hu; subst hu; rfl) (by decide) (by unfold maxLen; omega) (by omega) (by have := hb3.size; omega) _ rfl ?_
        intro g1 cap1 w3 hown1 hg1 _ hl1
        have hb4 : Below w.heap.size w w3 := (hba.trans (hb3.mono hsa)).grown hg1 (by have := hb3.size; omega) hlow.out
        have hcf : ∀ k, w3.cell? ⟨wr.heap.size, k, none⟩ = _ := fun k => hg1.cell_far ⟨wr.heap.size, k, none⟩ (by have := hb3.size; simp at this ⊢; omega) (fun e => by have := hlt1.out _ e.symm; simp at this)
        have hown2 := hown1
        rw [HX.out, ← HST.out] at hown2
        have HW := Lib.hid (And.intro hown2 hb4)
        refine hK.out _ _ ⟨(hcf 0).trans (HF.out _ hb3).1, (hcf 1).trans (HF.out _ hb3).2.1, trivial⟩ (fun hHeld => ?_)
        clear hK K hown1 hown2 hg1 hb4 hcf
        try simp only [Act.put, List.setIfInBounds_toArray, List.set_cons_zero, List.set_cons_succ]
        refine held_w (i := 10) (d := some 5) (v := ?_) rfl (by kernel_rfl) (by kernel_rfl) (by kernel_rfl) (fun _ _ _ h => h) (by rfl) ?_ hHeld ?_
        rotate_left
        · intro w' hSw; obtain ⟨q0, q1, q2⟩ := hSw; simp only [List.getElem?_toArray, List.getElem?_cons_zero, List.getElem?_cons_succ]; go_simp; try with_reducible rfl
        try simp only [Act.put, List.setIfInBounds_toArray, List.set_cons_zero, List.set_cons_succ]
        refine wpAnyH_done (by kernel_rfl) ?_ _
        go_wp2_with fail
        go_roundw
        case rel => exact ⟨i + 1, by omega, by go_num, HW.out.1, .inr ⟨g1, cap1, rfl⟩, HW.out.2⟩
        case measure => simp [intOf]; omega
    · obtain rfl : i = l.length := by omega
      rw [List.take_length] at hown
      have hjoin : Lib.join ((l.map fun x => str (partL x)).map (·.data.toList)) (str [44]).data.toList = printB l := by
        rw [List.map_map, str_data, ← printB_join]
        congr 1
      have hlen := printB_len HP.out
      have hR' : R = 123 :: (printB l ++ [125]) := HR.out.symm
      obtain ⟨J, hJ⟩ : ∃ J, printB l = J := ⟨_, rfl⟩
      rw [hJ] at hjoin hlen hR'
      have HR' := Lib.hid hR'
      have HJ := Lib.hid hjoin
      have k1 : ¬ (9223372036854775807 < 1 + J.length) := by omega
      have k2 : ¬ (9223372036854775807 < J.length + 1 + 1) := by omega
      clear hjoin hJ hR'
      rcases hv with rfl | ⟨g, cp, rfl⟩
      · have hl0 : l.length = 0 := by
          rcases hown.2 with ⟨_, h⟩ | ⟨_, _, _, e, _⟩
          · exact h
          · cases e
        have hj0 : J = [] := by
          obtain rfl : l = [] := List.eq_nil_of_length_eq_zero hl0
          have := HJ.out
          exact this.symm
        subst hj0
        go_wp2_with (go_at_call 72; refine (Tryd.strings_Join_none none 0 (str [44]) _).mono ?_; rintro e w3 ⟨rfl, rfl⟩)
        go_ret2
        exact ⟨by rw [HR'.out]; rfl, hb⟩
      · have hcells : ∀ (j : Nat) x, (l.map fun x => str (partL x))[j]? = some x → wr.cell? ⟨g, 0 + j, none⟩ = some (.string x) := by
          intro j x hx
          rw [Nat.zero_add]
          have hj : j < l.length := by
            have := (List.getElem?_eq_some_iff.1 hx).1
            simpa using this
          rw [hown.cellAt j (by omega)]
          rw [List.getElem?_map, List.getElem?_eq_getElem hj] at hx
          unfold partsC
          rw [List.getElem?_map, List.getElem?_eq_getElem hj]
          injection hx with hx
          rw [← hx]; rfl
        have hgl := ownLt hown g rfl
        have hcp : l.length ≤ cp := by
          rcases hown.2 with ⟨e, _⟩ | ⟨_, _, _, e, _, _, h, _⟩
          · cases e
          · injection e with _ _ e; omega
        have cj := fun W h1 h2 => Tryd.strings_Join g 0 cp (l.map fun x => str (partL x)) (str [44]) W h1 h2 (by rw [List.length_map]; omega) (by rw [List.length_map]; exact hcp) (by rw [HJ.out]; omega)
        rw [HJ.out, List.length_map] at cj
        clear hown
        go_wp2_with (go_at_call 72; refine (cj _ hcells hgl).mono ?_; rintro e w3 ⟨rfl, hb3⟩)
        go_ret2
        have e1 : ({ data := #[123] } : ByteArray) ++ { data := J.toArray } ++ { data := #[125] } = str R := by
          show str [123] ++ str J ++ str [125] = _
          rw [str_append, str_append, HR'.out]; rfl
        exact ⟨by rw [← e1]; rfl, hb.trans (hb3.mono hsz)⟩
end Go.Proofs.YtdbifbgjbfnfmaaDoor
/-
  Layer 4 (label): how a text is taken apart, plain: cutting at '=', taking off what stands at the ends. No program is named.
-/
namespace Go.Proofs.YtdbifbgjbfnfmaaDoor
open Go.RowKit Go.Deep

theorem cut_cons (c : UInt8) (s : List UInt8) : Lib.cut (c :: s) [61] = if c.toNat = 61 then ([], s, true) else (match Lib.cut s [61] with | (a, b, true) => (c :: a, b, true) | (_, _, false) => (c :: s, [], false)) := by
  have hp : ([61] : List UInt8).isPrefixOf (c :: s) = decide (c.toNat = 61) := by
    simp only [List.isPrefixOf, Bool.and_true]
    rw [Bool.eq_iff_iff]
    simp only [beq_iff_eq, decide_eq_true_eq]
    constructor
    · intro h; rw [← h]; rfl
    · intro h; exact (u8_eq (by rw [h]; rfl))
  by_cases h : c.toNat = 61
  · rw [if_pos h]
    have hi : Lib.index (c :: s) [61] = 0 := by rw [Lib.index, hp]; simp [h]
    unfold Lib.cut
    rw [hi]
    simp
  · rw [if_neg h]
    have hi : Lib.index (c :: s) [61] = if Lib.index s [61] == -1 then -1 else Lib.index s [61] + 1 := by rw [Lib.index, hp]; simp [h]
    have hge := Lib.index_ge s [61]
    unfold Lib.cut
    rw [hi]
    by_cases h1 : Lib.index s [61] = -1
    · rw [h1]; simp
    · obtain ⟨j, hj⟩ : ∃ j : Nat, Lib.index s [61] = j := ⟨(Lib.index s [61]).toNat, by omega⟩
      rw [hj]
      have hb : (((j : Nat) : Int) == -1) = false := by rw [beq_eq_false_iff_ne]; omega
      rw [hb]
      simp only [Bool.false_eq_true, if_false]
      rw [if_pos (by omega), if_pos (by omega)]
      have e1 : ((j : Int) + 1).toNat = j + 1 := by omega
      rw [e1, Int.toNat_natCast]
      simp
theorem cut_E (s : List UInt8) : Lib.cut s [61] = (match cutE s with | some (a, b) => (a, b, true) | none => (s, [], false)) := by
  induction s with
  | nil => rfl
  | cons c s ih =>
    rw [cut_cons, cutE, ih]
    by_cases h : c.toNat = 61
    · rw [if_pos h, if_pos h]
    · rw [if_neg h, if_neg h]
      cases cutE s with
      | none => rfl
      | some x => obtain ⟨a, b⟩ := x; rfl
theorem cutE_len {s a b : List UInt8} (h : cutE s = some (a, b)) : a.length + b.length + 1 = s.length := by
  induction s generalizing a b with
  | nil => simp [cutE] at h
  | cons c s ih =>
    rw [cutE] at h
    by_cases hc : c.toNat = 61
    · rw [if_pos hc] at h
      injection h with h
      injection h with h1 h2
      subst h1 h2; simp
    · rw [if_neg hc] at h
      cases hs : cutE s with
      | none => rw [hs] at h; cases h
      | some x =>
        obtain ⟨a', b'⟩ := x
        rw [hs] at h
        injection h with h
        injection h with h1 h2
        have := ih hs
        subst h1 h2; simp; omega
theorem trimP_tail (r : List Lab) : Lib.trimPrefix (tailB r) [44] = printB r := by
  cases r with
  | nil => rfl
  | cons x r => simp [tailB, printB, Lib.trimPrefix, Lib.hasPrefix, List.isPrefixOf]
theorem trimP_len (s p : List UInt8) : (Lib.trimPrefix s p).length ≤ s.length := by
  unfold Lib.trimPrefix; split <;> simp
theorem trimS_len (s p : List UInt8) : (Lib.trimSuffix s p).length ≤ s.length := by
  unfold Lib.trimSuffix; split <;> simp
theorem trim_print (l : List Lab) : Lib.trimSuffix (Lib.trimPrefix (printL l) [123]) [125] = printB l := by
  have e1 : Lib.trimPrefix (printL l) [123] = printB l ++ [125] := by
    simp [printL, Lib.trimPrefix, Lib.hasPrefix, List.isPrefixOf]
  rw [e1]
  have e2 : Lib.hasSuffix (printB l ++ [125]) [125] = true := by
    unfold Lib.hasSuffix
    rw [List.isSuffixOf_iff_suffix]
    exact ⟨printB l, rfl⟩
  unfold Lib.trimSuffix
  rw [if_pos e2]
  simp
/-- What unquote answers. -/
def unqL (s : List UInt8) : List UInt8 × List UInt8 × Bool := match scan (s.drop 1) with
  | some (v, b) => (v, b, true)
  | none => ([], [], false)
/-- The only labels of which s could still be the text: acc, and those whose inside is rest. -/
def Goes (s : List UInt8) (acc : List Lab) (rest : List UInt8) : Prop := ∀ L, okL L = true → printL L = s → ∃ r, L = acc ++ r ∧ printB r = rest
theorem Goes.start (s : List UInt8) : Goes s [] (Lib.trimSuffix (Lib.trimPrefix s [123]) [125]) := by
  rintro L hL rfl
  exact ⟨L, rfl, (trim_print L).symm⟩
theorem Goes.done {s : List UInt8} {acc : List Lab} (h : Goes s acc []) : ∀ L, okL L = true → printL L = s → L = acc := by
  intro L hL hs
  obtain ⟨r, h1, h2⟩ := h L hL hs
  cases r with
  | nil => simpa using h1
  | cons x r => exact absurd h2 printB_ne
/-- One label more. -/
theorem Goes.more {s : List UInt8} {acc : List Lab} {rest : List UInt8} (h : Goes s acc rest) (hne : rest ≠ []) : ∀ L, okL L = true → printL L = s → ∃ x r, L = acc ++ x :: r ∧ cutE rest = some (x.1, 34 :: (quoteB x.2 ++ 34 :: tailB r)) ∧ scan (quoteB x.2 ++ 34 :: tailB r) = some (x.2, tailB r) := by
  intro L hL hs
  obtain ⟨r, h1, h2⟩ := h L hL hs
  cases r with
  | nil => exact absurd h2.symm hne
  | cons x r =>
    have hx : nameL x.1 = true := (okL_mem hL x (by rw [h1]; simp)).1
    exact ⟨x, r, h1, by rw [← h2]; exact cutE_print hx, scan_quote _ _⟩
theorem Goes.noCut {s : List UInt8} {acc : List Lab} {rest : List UInt8} (h : Goes s acc rest) (hne : rest ≠ []) (hc : cutE rest = none) : ∀ L, okL L = true → printL L ≠ s := by
  intro L hL hs
  obtain ⟨x, r, _, h2, _⟩ := h.more hne L hL hs
  rw [hc] at h2; cases h2
theorem Goes.full {s : List UInt8} {acc : List Lab} {rest : List UInt8} (h : Goes s acc rest) (hne : rest ≠ []) (ha : acc.length = 8) : ∀ L, okL L = true → printL L ≠ s := by
  intro L hL hs
  obtain ⟨x, r, h1, _, _⟩ := h.more hne L hL hs
  have := okL_len hL
  rw [h1] at this
  simp at this
  omega
theorem Goes.noScan {s : List UInt8} {acc : List Lab} {rest n b : List UInt8} (h : Goes s acc rest) (hne : rest ≠ []) (hc : cutE rest = some (n, b)) (hs : scan (b.drop 1) = none) : ∀ L, okL L = true → printL L ≠ s := by
  intro L hL hp
  obtain ⟨x, r, _, h2, h3⟩ := h.more hne L hL hp
  rw [hc] at h2
  injection h2 with h2
  injection h2 with _ h4
  rw [h4] at hs
  simp only [List.drop_succ_cons, List.drop_zero] at hs
  rw [hs] at h3; cases h3
theorem Goes.step {s : List UInt8} {acc : List Lab} {rest n b v q : List UInt8} (h : Goes s acc rest) (hne : rest ≠ []) (hc : cutE rest = some (n, b)) (hs : scan (b.drop 1) = some (v, q)) : Goes s (acc ++ [(n, v)]) (Lib.trimPrefix q [44]) := by
  intro L hL hp
  obtain ⟨x, r, h1, h2, h3⟩ := h.more hne L hL hp
  rw [hc] at h2
  injection h2 with h2
  injection h2 with h5 h4
  rw [h4] at hs
  simp only [List.drop_succ_cons, List.drop_zero] at hs
  rw [h3] at hs
  injection hs with hs
  injection hs with h6 h7
  refine ⟨r, ?_, by rw [← h7, trimP_tail]⟩
  rw [h1, h5, ← h6]
  simp
end Go.Proofs.YtdbifbgjbfnfmaaDoor
/-
  Layer 4 (label): what the program's unquote, guess and Parse return; all that was in memory stays.
-/
namespace Go.Proofs.YtdbifbgjbfnfmaaDoor
open Go.RowKit Go.Deep
attribute [local go_sem] str_size str_append str_toList str_get str_extract
set_option linter.unusedVariables false
set_option linter.unusedSimpArgs false
def meantL (c : UInt8) : UInt8 := if c.toNat = 110 then 10 else c
theorem meant_c (c : UInt8) (w : World) : Calls Tryd.prog 130 #[.int .u8 (c.toNat : Int)] w fun e w' => e = .returned (.int .u8 ((meantL c).toNat : Int)) ∧ w = w' := by
  by_cases h : c.toNat = 110
  · have t1 : (((c.toNat : Nat) : Int) == 110) = true := by simp [h]
    have e : meantL c = 10 := by unfold meantL; rw [if_pos h]
    rw [e]
    clear h e
    go_enter Tryd.func130, Tryd.ntmps130
    go_wp2_with fail
    go_ret
    exact ⟨rfl, rfl⟩
  · have t1 : (((c.toNat : Nat) : Int) == 110) = false := by rw [beq_eq_false_iff_ne]; omega
    have e : meantL c = c := by unfold meantL; rw [if_neg h]
    rw [e]
    clear h e
    go_enter Tryd.func130, Tryd.ntmps130
    go_wp2_with fail
    go_ret
    exact ⟨rfl, rfl⟩
theorem ret_ssb {a b c d : List UInt8} {x y : Bool} (h : (a, b, x) = (c, d, y)) : Ending.returned (.tuple #[.string (str a), .string (str b), .bool x]) = .returned (.tuple #[.string (str c), .string (str d), .bool y]) := by
  injection h with h1 h2; injection h2 with h2 h3; rw [h1, h2, h3]
set_option maxHeartbeats 2000000 in
theorem unquote_c (s : List UInt8) (w : World) (hs : s.length ≤ 1048576) : Calls Tryd.prog 119 #[.string (str s)] w fun e w' => e = .returned (.tuple #[.string (str (unqL s).1), .string (str (unqL s).2.1), .bool (unqL s).2.2]) ∧ Below w.heap.size w w' := by
  obtain ⟨i0, hi0, hz0, hz1, hz2⟩ := info_parts byte_info
  obtain ⟨V, hV⟩ : ∃ V, (unqL s).1 = V := ⟨_, rfl⟩
  obtain ⟨T, hTT⟩ : ∃ T, (unqL s).2.1 = T := ⟨_, rfl⟩
  obtain ⟨O, hO⟩ : ∃ O, (unqL s).2.2 = O := ⟨_, rfl⟩
  rw [hV, hTT, hO]
  have HR : Hid (unqL s = (V, T, O)) := by show _ = _; rw [← hV, ← hTT, ← hO]
  have hsome : ∀ v b, scan (s.drop 1) = some (v, b) → unqL s = (v, b, true) := fun v b h => by unfold unqL; rw [h]
  have hnone : scan (s.drop 1) = none → unqL s = ([], [], false) := fun h => by unfold unqL; rw [h]
  have HSO := Lib.hid hsome
  have HNO := Lib.hid hnone
  clear hV hTT hO hsome hnone
  go_enter Tryd.func119, Tryd.ntmps119
  go_wp2_with fail
  go_loopw [5, 6] (fun v c wr => ∃ (i : Nat) (acc : List UInt8), i ≤ s.length + 1 ∧ c = .int .i64 i ∧ wr.ownsRow w.heap.size 5 1 v acc.length (acc.map fun c => .int .u8 (c.toNat : Int)) ∧ acc.length ≤ i ∧ Hid (scan (s.drop 1) = pre acc (scan (s.drop i))) ∧ Below w.heap.size w wr) (fun _ c _ => s.length + 1 - (intOf c).toNat)
  case atStart => exact ⟨1, [], by omega, rfl, ⟨rfl, .inl ⟨rfl, rfl⟩⟩, by simp, by show _ = _; rw [pre_nil], Below.refl _ _⟩
  case round =>
    obtain ⟨i, acc, hi, rfl, hown, hal, HI, hb⟩ := hrel
    obtain ⟨A, cap, rfl⟩ := row_slice hown
    have hsz := hb.size
    have hlow := Lib.hid (ownLow hown)
    by_cases hlt : i < s.length
    · have E34 := Lib.hid (fun h => pre_end (acc := acc) hlt h)
      have EPL := Lib.hid (fun h1 h2 => pre_plain (acc := acc) hlt h1 h2)
      have ECUT := Lib.hid (fun he h2 => pre_cut (s := s) (acc := acc) (i := i) he h2)
      have EESC := Lib.hid (fun he h2 => pre_esc (s := s) (acc := acc) (i := i) he h2)
      obtain ⟨x, hx⟩ : ∃ x, s[i]'hlt = x := ⟨_, rfl⟩
      have HX := Lib.hid hx
      have hxl : x.toNat < 256 := x.toNat_lt
      by_cases h1 : x.toNat = 34
      · have t1 : (((x.toNat : Nat) : Int) == 34) = true := by simp [h1]
        have e := HSO.out _ _ (HI.out.trans (E34.out (by rw [HX.out]; exact h1)))
        rw [HR.out] at e
        simp only [Prod.mk.injEq] at e
        obtain ⟨rfl, rfl, rfl⟩ := e
        have hcv := fun n => conv_mine (P := Tryd.prog) (wr.drewN n) 78 9 5 Tryd.underlying78 Tryd.underlying5 Tryd.underlying9 w.heap.size V A V.length cap rfl hown
        have htk : (s.drop (i + 1)).take (s.length - (i + 1)) = s.drop (i + 1) := List.take_of_length_le (by rw [List.length_drop]; omega)
        clear HI HR hown
        go_wp2_with fail
        go_quiet (fail)
        go_wp2_with fail
        go_ret3
        exact ⟨rfl, below_drewN hb _⟩
      · have t1 : (((x.toNat : Nat) : Int) == 34) = false := by simp; omega
        by_cases h2 : x.toNat = 92
        · have t2 : (((x.toNat : Nat) : Int) == 92) = true := by simp [h2]
          by_cases hend : i + 1 = s.length
          · have t3 : (((i : Int) + 1) == (s.length : Int)) = true := by simp; omega
            have e := HNO.out (HI.out.trans (ECUT.out hend (by rw [HX.out]; exact h2)))
            rw [HR.out] at e
            simp only [Prod.mk.injEq] at e
            obtain ⟨rfl, rfl, rfl⟩ := e
            clear HI HR hown
            go_wp2_with fail
            go_ret3
            exact ⟨rfl, hb⟩
          · have t3 : (((i : Int) + 1) == (s.length : Int)) = false := by simp; omega
            have hlt2 : i + 1 < s.length := by omega
            have es := EESC.out hlt2 (by rw [HX.out]; exact h2)
            obtain ⟨y, hy⟩ : ∃ y, s[i + 1]'hlt2 = y := ⟨_, rfl⟩
            rw [hy] at es
            have ES := Lib.hid (HI.out.trans es)
            have cm := fun W => meant_c y W
            obtain ⟨z, hz⟩ : ∃ z, meantL y = z := ⟨_, rfl⟩
            have hz' : (if y.toNat = 110 then (10 : UInt8) else y) = z := hz
            rw [hz] at cm
            have HZ := Lib.hid hz'
            have HO := Lib.hid (hown.alloc (.cells #[.int .u8 (z.toNat : Int)] 5))
            clear es hend hz hz' hown HI
            go_wp2_with (first | (go_at_call 130; refine (cm _).mono ?_; rintro e w1 ⟨rfl, rfl⟩) | (at_builtin; refine wpList_append_lies _ rfl (.tmp 38) (.tmp 43) 78 rfl w.heap.size 5 i0 (.int .u8 0) 1 1 Tryd.underlying78 hi0 hz0 hz1 hz2 rfl (by decide) _ acc.length _ rfl HO.out ⟨wr.heap.size, 0, none⟩ 1 1 [.int .u8 (z.toNat : Int)] rfl rfl ?c1 ?c2 (by decide) ?c3 ?c4 ?c5 _ rfl ?c6))
            case c1 => exact cell_one_new _ _ _
            case c2 => intro u hu; simp at hu; subst hu; rfl
            case c3 => unfold maxLen; omega
            case c4 => omega
            case c5 => simp; omega
            case c6 =>
              intro g1 cap1 w2 hown1 hg1 _ hl1
              go_wp2_with fail
              go_roundw
              case rel => exact ⟨i + 2, acc ++ [z], by omega, by go_num, by simpa using hown1, by simp; omega, by show _ = _; rw [ES.out, HZ.out], (hb.alloc hsz _).grown hg1 (by simp; omega) hlow.out⟩
              case measure => simp [intOf]; omega
        · have t2 : (((x.toNat : Nat) : Int) == 92) = false := by simp; omega
          have es := HI.out.trans (EPL.out (by rw [HX.out]; exact h1) (by rw [HX.out]; exact h2))
          rw [HX.out] at es
          have ES := Lib.hid es
          have HO := Lib.hid (hown.alloc (.cells #[.int .u8 (x.toNat : Int)] 5))
          clear es hown HI
          go_wp2_with (at_builtin; refine wpList_append_lies _ rfl (.tmp 16) (.tmp 20) 78 rfl w.heap.size 5 i0 (.int .u8 0) 1 1 Tryd.underlying78 hi0 hz0 hz1 hz2 rfl (by decide) _ acc.length _ rfl HO.out ⟨wr.heap.size, 0, none⟩ 1 1 [.int .u8 (x.toNat : Int)] rfl rfl ?c1 ?c2 (by decide) ?c3 ?c4 ?c5 _ rfl ?c6)
          case c1 => exact cell_one_new _ _ _
          case c2 => intro u hu; simp at hu; subst hu; rfl
          case c3 => unfold maxLen; omega
          case c4 => omega
          case c5 => simp; omega
          case c6 =>
            intro g1 cap1 w2 hown1 hg1 _ hl1
            go_wp2_with fail
            go_roundw
            case rel => exact ⟨i + 1, acc ++ [x], by omega, by go_num, by simpa using hown1, by simp; omega, ES.out, (hb.alloc hsz _).grown hg1 (by simp; omega) hlow.out⟩
            case measure => simp [intOf]; omega
    · have e := HNO.out (HI.out.trans (by rw [List.drop_eq_nil_of_le (by omega)]; rfl))
      rw [HR.out] at e
      simp only [Prod.mk.injEq] at e
      obtain ⟨rfl, rfl, rfl⟩ := e
      clear HI HR hown
      go_wp2_with fail
      go_ret3
      exact ⟨rfl, hb⟩
end Go.Proofs.YtdbifbgjbfnfmaaDoor
