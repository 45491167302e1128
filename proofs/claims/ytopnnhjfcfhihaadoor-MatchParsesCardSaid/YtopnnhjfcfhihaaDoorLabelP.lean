/-
  Layer 4 (label): what the program's Print returns; all that was in memory stays.
-/
import Derived.Test.YtopnnhjfcfhihaaDoorLabelC
import Derived.Test.YtopnnhjfcfhihaaDoorHeld
namespace Go.Proofs.YtopnnhjfcfhihaaDoor
open Go.RowKit Go.Deep
attribute [local go_sem] str_size str_append str_toList str_get str_extract
set_option linter.unusedVariables false
set_option linter.unusedSimpArgs false
theorem str_info : (Tryd.prog.info? 9).map (fun i => (i.zero, i.size, i.bytes)) = some (some (.string (str [])), 1, 16) := by kernel_rfl
def partsC (l : List Lab) : List Value := l.map fun x => .string (str (partL x))
theorem partsC_take {l : List Lab} {i : Nat} (h : i < l.length) : partsC (l.take (i + 1)) = partsC (l.take i) ++ [.string (str (l[i].1 ++ 61 :: quoteL l[i].2))] := by
  unfold partsC; rw [List.take_succ_eq_append_getElem h, List.map_append]; rfl
theorem str_data' (l : List UInt8) : (str l).data.toList = l := str_data l
theorem ownLt {w : World} {base : Nat} {e : TypeId} {size : Nat} {v : Value} {n : Nat} {xs : List Value} (h : w.ownsRow base e size v n xs) : ∀ k, v.ownBlock = some k → k < w.heap.size := by
  intro k hk
  rcases h.2 with ⟨rfl, _⟩ | ⟨g, c, cur, rfl, _, hg, _⟩
  · simp [Value.ownBlock] at hk
  · simp [Value.ownBlock] at hk
    subst hk
    exact lt_of_block hg
set_option maxRecDepth 100000 in
set_option maxHeartbeats 1000000 in
theorem print_c (A : Option Addr) (len cap : Nat) (l : List Lab) (w : World) (hl : len ≤ 140737488355328) (hA : LAt w A len l) (hz : ∀ x ∈ l, x.1.length ≤ 16384 ∧ x.2.length ≤ 16384) (hT : Lib.Utf8Tabs 1 2 w) :
    Calls Tryd.prog 79 #[.slice A len cap] w fun e w' => e = .returned (.tuple #[.string (str (if okL l = true then printL l else [])), .int .i64 (eOf (okL l))]) ∧ Below w.heap.size w w' := by
  have c0 := fun W h1 h2 => check_c A len cap l W hl h1 hz h2
  have hle := hA.1
  subst hle
  obtain ⟨i0, hi0, hz0, hz1, hz2⟩ := info_parts str_info
  cases hO : okL l with
  | false =>
    rw [hO] at c0
    go_enter Tryd.func79, Tryd.ntmps79
    go_wp2_with fail
    refine (c0 _ hA hT).mono ?_
    rintro e w1 ⟨rfl, hb1⟩
    go_wp2_with fail
    go_ret2
    exact ⟨rfl, hb1⟩
  | true =>
  rw [hO] at c0
  have hl8 := okL_len hO
  have hp83 := partL_ok hO
  obtain ⟨R, hR⟩ : ∃ R, printL l = R := ⟨_, rfl⟩
  rw [if_pos rfl, hR]
  have HR := Lib.hid hR
  have HP := Lib.hid hp83
  clear hR hp83 hO
  go_enter Tryd.func79, Tryd.ntmps79
  go_wp2_with fail
  refine (c0 _ hA hT).mono ?_
  rintro e w1 ⟨rfl, hb1⟩
  have e0 : eOf true = 0 := rfl
  rw [e0]
  clear c0 e0
  go_wp2_with fail
  obtain ⟨wo, rfl⟩ : ∃ wo : World, wo = w1 := ⟨_, rfl⟩
  go_loopw [5, 15] (fun v c wr => ∃ i : Nat, i ≤ l.length ∧ c = .int .i64 i ∧ wr.ownsRow w.heap.size 9 1 v i (partsC (l.take i)) ∧ (v = .slice none 0 0 ∨ ∃ g cp, v = .slice (some ⟨g, 0, none⟩) i cp) ∧ Below w.heap.size w wr) (fun _ c _ => l.length - (intOf c).toNat)
  case atStart => exact ⟨0, Nat.zero_le _, rfl, ⟨rfl, .inl ⟨rfl, rfl⟩⟩, .inl rfl, hb1⟩
  case round =>
    obtain ⟨i, hi, rfl, hown, hv, hb⟩ := hrel
    have hsz := hb.size
    by_cases hlt : i < l.length
    · obtain ⟨-, ad, rfl, h2, h3, h4⟩ := (hA.below hb).2 i hlt
      have hst := partsC_take hlt
      obtain ⟨z1, z2⟩ := hz _ (List.getElem_mem hlt)
      have hpl := HP.out _ (List.getElem_mem hlt)
      obtain ⟨x, hx⟩ : ∃ x, l[i]'hlt = x := ⟨_, rfl⟩
      rw [hx] at hst h3 h4 z1 z2 hpl
      obtain ⟨n, v1⟩ := x
      simp only at hst h3 h4 z1 z2
      have HST := Lib.hid hst
      have c1 := fun W => quote_c v1 W (by omega)
      have hq0 := blk_new wr (.cells #[.string (str n), .string (str v1)] 40)
      have hba : Below w.heap.size w (wr.alloc (.cells #[.string (str n), .string (str v1)] 40)) := hb.alloc hsz _
      have hsa : w.heap.size ≤ (wr.alloc (.cells #[.string (str n), .string (str v1)] 40)).heap.size := by simp; omega
      have HO := Lib.hid (hown.alloc (.cells #[.string (str n), .string (str v1)] 40))
      have hlow := Lib.hid (ownLow hown)
      have hlt1 := Lib.hid (ownLt hown)
      have hql := quoteL_len v1
      obtain ⟨Q, hQ⟩ : ∃ Q, quoteL v1 = Q := ⟨_, rfl⟩
      rw [hQ] at c1 HST hql
      have HX : Hid (str n ++ { data := #[61] } ++ str Q = str (n ++ 61 :: Q)) := by show _ = _; rw [show ({ data := #[61] } : ByteArray) = str [61] from rfl, str_append, str_append, List.append_assoc]; rfl
      have k1 : ¬ (9223372036854775807 < n.length + 1) := by omega
      have k2 : ¬ (9223372036854775807 < n.length + 1 + Q.length) := by omega
      clear hst hx hown hQ hpl
      have d0 := blk_cell hq0 0
      have d1 := blk_cell hq0 1
      simp only [List.getElem?_toArray, List.getElem?_cons_zero, List.getElem?_cons_succ] at d0 d1
      rcases hv with rfl | ⟨g, cp, rfl⟩
      all_goals
        go_wp2_with fail
        refine wp_region_held_drew (S := fun w' => w'.cell? ⟨wr.heap.size, 0, none⟩ = some (.string (str n)) ∧ w'.cell? ⟨wr.heap.size, 1, none⟩ = some (.string (str v1)) ∧ True) (by kernel_rfl) ⟨d0, d1, trivial⟩ (fun hHeld => ?_)
        refine held_w (i := 0) (d := some 19) (v := ?_) rfl (by kernel_rfl) (by kernel_rfl) (by kernel_rfl) (fun _ _ _ h => h) (by rfl) ?_ hHeld ?_
        rotate_left
        · intro w' hSw; obtain ⟨q0, q1, q2⟩ := hSw; simp only [List.getElem?_toArray, List.getElem?_cons_zero, List.getElem?_cons_succ]; go_simp; try with_reducible rfl
        try simp only [Act.put, List.setIfInBounds_toArray, List.set_cons_zero, List.set_cons_succ]
        refine held_w (i := 1) (d := some 20) (v := ?_) rfl (by kernel_rfl) (by kernel_rfl) (by kernel_rfl) (fun _ _ _ h => h) (by rfl) ?_ hHeld ?_
        rotate_left
        · intro w' hSw; obtain ⟨q0, q1, q2⟩ := hSw; simp only [List.getElem?_toArray, List.getElem?_cons_zero, List.getElem?_cons_succ]; go_simp; try with_reducible rfl
        try simp only [Act.put, List.setIfInBounds_toArray, List.set_cons_zero, List.set_cons_succ]
        refine held_w (i := 2) (d := some 21) (v := ?_) rfl (by kernel_rfl) (by kernel_rfl) (by kernel_rfl) (fun _ _ _ h => h) (by rfl) ?_ hHeld ?_
        rotate_left
        · intro w' hSw; obtain ⟨q0, q1, q2⟩ := hSw; simp only [List.getElem?_toArray, List.getElem?_cons_zero, List.getElem?_cons_succ]; go_simp; try with_reducible rfl
        try simp only [Act.put, List.setIfInBounds_toArray, List.set_cons_zero, List.set_cons_succ]
        refine held_w (i := 3) (d := some 22) (v := ?_) rfl (by kernel_rfl) (by kernel_rfl) (by kernel_rfl) (fun _ _ _ h => h) (by rfl) ?_ hHeld ?_
        rotate_left
        · intro w' hSw; obtain ⟨q0, q1, q2⟩ := hSw; simp only [List.getElem?_toArray, List.getElem?_cons_zero, List.getElem?_cons_succ]; go_simp; try with_reducible rfl
        try simp only [Act.put, List.setIfInBounds_toArray, List.set_cons_zero, List.set_cons_succ]
        refine held_w (i := 4) (d := some 23) (v := ?_) rfl (by kernel_rfl) (by kernel_rfl) (by kernel_rfl) (fun _ _ _ h => h) (by rfl) ?_ hHeld ?_
        rotate_left
        · intro w' hSw; obtain ⟨q0, q1, q2⟩ := hSw; simp only [List.getElem?_toArray, List.getElem?_cons_zero, List.getElem?_cons_succ]; go_simp; try with_reducible rfl
        try simp only [Act.put, List.setIfInBounds_toArray, List.set_cons_zero, List.set_cons_succ]
        refine held_w (i := 5) (d := some 24) (v := ?_) rfl (by kernel_rfl) (by kernel_rfl) (by kernel_rfl) (fun _ _ _ h => h) (by rfl) ?_ hHeld ?_
        rotate_left
        · intro w' hSw; obtain ⟨q0, q1, q2⟩ := hSw; simp only [List.getElem?_toArray, List.getElem?_cons_zero, List.getElem?_cons_succ]; go_simp; try with_reducible rfl
        try simp only [Act.put, List.setIfInBounds_toArray, List.set_cons_zero, List.set_cons_succ]
        refine held_c (i := 6) (by kernel_rfl) (by rfl) (fun K hK => ?_)
        simp only [List.getElem?_toArray, List.getElem?_cons_zero, List.getElem?_cons_succ]
        go_simp
        refine (c1 _).mono ?_
        rintro e w2 ⟨rfl, hb2⟩
        have hb2' := below_of_drew hb2
        have hlb : wr.heap.size < (wr.alloc (.cells #[.string (str n), .string (str v1)] 40)).heap.size := by simp
        have hf : ∀ W, Below (wr.alloc (.cells #[.string (str n), .string (str v1)] 40)).heap.size (wr.alloc (.cells #[.string (str n), .string (str v1)] 40)) W → W.cell? ⟨wr.heap.size, 0, none⟩ = some (.string (str n)) ∧ W.cell? ⟨wr.heap.size, 1, none⟩ = some (.string (str v1)) ∧ True := fun W hW => ⟨(hW.cell (p := ⟨wr.heap.size, 0, none⟩) hlb).trans d0, (hW.cell (p := ⟨wr.heap.size, 1, none⟩) hlb).trans d1, trivial⟩
        have HF := Lib.hid hf
        have hb3 := hb2'.alloc hb2'.size (.cells #[.string (str n ++ { data := #[61] } ++ str Q)] 9)
        have HO3 := Lib.hid (((Keeps.below (F := []) hb2').row HO.out (by simp)).alloc (.cells #[.string (str n ++ { data := #[61] } ++ str Q)] 9))
        refine hK.out _ _ (HF.out _ hb2') (fun hHeld => ?_)
        clear hK K hf
        try simp only [Act.put, List.setIfInBounds_toArray, List.set_cons_zero, List.set_cons_succ]
        refine held_w (i := 7) (d := some 26) (v := ?_) rfl (by kernel_rfl) (by kernel_rfl) (by kernel_rfl) (fun _ _ _ h => h) (by rfl) ?_ hHeld ?_
        rotate_left
        · intro w' hSw; obtain ⟨q0, q1, q2⟩ := hSw; simp only [List.getElem?_toArray, List.getElem?_cons_zero, List.getElem?_cons_succ]; go_simp; try with_reducible rfl
        try simp only [Act.put, List.setIfInBounds_toArray, List.set_cons_zero, List.set_cons_succ]
        refine held_c (i := 8) (by kernel_rfl) (by rfl) (fun K hK => ?_)
        simp only [List.getElem?_toArray, List.getElem?_cons_zero, List.getElem?_cons_succ]
        go_simp
        refine hK.out _ _ (HF.out _ hb3) (fun hHeld => ?_)
        clear hK K
        try simp only [Act.put, List.setIfInBounds_toArray, List.set_cons_zero, List.set_cons_succ]
        refine held_c (i := 9) (by kernel_rfl) (by rfl) (fun K hK => ?_)
        simp only [List.getElem?_toArray, List.getElem?_cons_zero, List.getElem?_cons_succ]
        refine wp_append_lies _ (.tmp 19) (.tmp 27) 28 rfl w.heap.size 9 i0 (.string (str [])) 1 16 Tryd.underlying28 hi0 hz0 hz1 hz2 rfl (by decide) _ i (partsC (l.take i)) rfl HO3.out ⟨w2.heap.size, 0, none⟩ 1 1 [.string (str n ++ { data := #[61] } ++ str Q)] rfl rfl (cell_one_new _ _ _) (by intro u hu; simp at hu; subst hu; rfl) (by decide) (by unfold maxLen; omega) (by omega) (by have := hb3.size; omega) _ rfl ?_
        intro g1 cap1 w3 hown1 hg1 _ hl1
        have hb4 : Below w.heap.size w w3 := (hba.trans (hb3.mono hsa)).grown hg1 (by have := hb3.size; omega) hlow.out
        have hcf : ∀ k, w3.cell? ⟨wr.heap.size, k, none⟩ = _ := fun k => hg1.cell_far ⟨wr.heap.size, k, none⟩ (by have := hb3.size; simp at this ⊢; omega) (fun e => by have := hlt1.out _ e.symm; simp at this)
        have hown2 := hown1
        rw [HX.out, ← HST.out] at hown2
        have HW := Lib.hid (And.intro hown2 hb4)
        refine hK.out _ _ ⟨(hcf 0).trans (HF.out _ hb3).1, (hcf 1).trans (HF.out _ hb3).2.1, trivial⟩ (fun hHeld => ?_)
        clear hK K hown1 hown2 hg1 hb4 hcf
        try simp only [Act.put, List.setIfInBounds_toArray, List.set_cons_zero, List.set_cons_succ]
        refine held_w (i := 10) (d := some 5) (v := ?_) rfl (by kernel_rfl) (by kernel_rfl) (by kernel_rfl) (fun _ _ _ h => h) (by rfl) ?_ hHeld ?_
        rotate_left
        · intro w' hSw; obtain ⟨q0, q1, q2⟩ := hSw; simp only [List.getElem?_toArray, List.getElem?_cons_zero, List.getElem?_cons_succ]; go_simp; try with_reducible rfl
        try simp only [Act.put, List.setIfInBounds_toArray, List.set_cons_zero, List.set_cons_succ]
        refine wpAnyH_done (by kernel_rfl) ?_ _
        go_wp2_with fail
        go_roundw
        case rel => exact ⟨i + 1, by omega, by go_num, HW.out.1, .inr ⟨g1, cap1, rfl⟩, HW.out.2⟩
        case measure => simp [intOf]; omega
    · obtain rfl : i = l.length := by omega
      rw [List.take_length] at hown
      have hjoin : Lib.join ((l.map fun x => str (partL x)).map (·.data.toList)) (str [44]).data.toList = printB l := by
        rw [List.map_map, str_data, ← printB_join]
        congr 1
      have hlen := printB_len HP.out
      have hR' : R = 123 :: (printB l ++ [125]) := HR.out.symm
      obtain ⟨J, hJ⟩ : ∃ J, printB l = J := ⟨_, rfl⟩
      rw [hJ] at hjoin hlen hR'
      have HR' := Lib.hid hR'
      have HJ := Lib.hid hjoin
      have k1 : ¬ (9223372036854775807 < 1 + J.length) := by omega
      have k2 : ¬ (9223372036854775807 < J.length + 1 + 1) := by omega
      clear hjoin hJ hR'
      rcases hv with rfl | ⟨g, cp, rfl⟩
      · have hl0 : l.length = 0 := by
          rcases hown.2 with ⟨_, h⟩ | ⟨_, _, _, e, _⟩
          · exact h
          · cases e
        have hj0 : J = [] := by
          obtain rfl : l = [] := List.eq_nil_of_length_eq_zero hl0
          have := HJ.out
          exact this.symm
        subst hj0
        go_wp2_with (go_at_call 27; refine (Tryd.strings_Join_none none 0 (str [44]) _).mono ?_; rintro e w3 ⟨rfl, rfl⟩)
        go_ret2
        exact ⟨by rw [HR'.out]; rfl, hb⟩
      · have hcells : ∀ (j : Nat) x, (l.map fun x => str (partL x))[j]? = some x → wr.cell? ⟨g, 0 + j, none⟩ = some (.string x) := by
          intro j x hx
          rw [Nat.zero_add]
          have hj : j < l.length := by
            have := (List.getElem?_eq_some_iff.1 hx).1
            simpa using this
          rw [hown.cellAt j (by omega)]
          rw [List.getElem?_map, List.getElem?_eq_getElem hj] at hx
          unfold partsC
          rw [List.getElem?_map, List.getElem?_eq_getElem hj]
          injection hx with hx
          rw [← hx]; rfl
        have hgl := ownLt hown g rfl
        have hcp : l.length ≤ cp := by
          rcases hown.2 with ⟨e, _⟩ | ⟨_, _, _, e, _, _, h, _⟩
          · cases e
          · injection e with _ _ e; omega
        have cj := fun W h1 h2 => Tryd.strings_Join g 0 cp (l.map fun x => str (partL x)) (str [44]) W h1 h2 (by rw [List.length_map]; omega) (by rw [List.length_map]; exact hcp) (by rw [HJ.out]; omega)
        rw [HJ.out, List.length_map] at cj
        clear hown
        go_wp2_with (go_at_call 27; refine (cj _ hcells hgl).mono ?_; rintro e w3 ⟨rfl, hb3⟩)
        go_ret2
        have e1 : ({ data := #[123] } : ByteArray) ++ { data := J.toArray } ++ { data := #[125] } = str R := by
          show str [123] ++ str J ++ str [125] = _
          rw [str_append, str_append, HR'.out]; rfl
        exact ⟨by rw [← e1]; rfl, hb.trans (hb3.mono hsz)⟩
end Go.Proofs.YtopnnhjfcfhihaaDoor
