/-
  Layer 5 (match): what the program's text and Print return; all that was in memory stays.
-/
import Derived.Test.YtopnnhjfcfhihaaDoorMatchText
import Derived.Test.YtopnnhjfcfhihaaDoorMatchC
import Derived.Test.YtopnnhjfcfhihaaDoorLabelP
namespace Go.Proofs.YtopnnhjfcfhihaaDoor
open Go.RowKit Go.Deep
attribute [local go_sem] str_size str_append str_toList str_get str_extract
set_option linter.unusedVariables false
set_option linter.unusedSimpArgs false
set_option maxHeartbeats 400000 in
theorem sign_c (mark : List UInt8) (nt many : Bool) (F : Nat) (w : World) (hm : mark.length ≤ 1000) :
    Calls Tryd.prog 43 #[.agg #[.string (str mark), .bool nt, .bool many, .func (.func F) #[] #[]]] w fun e w' => e = .returned (.string (str (mark ++ [61]))) ∧ Below w.heap.size w w' := by
  have hst := fun (a : Addr) (w : World) => run_store Tryd.prog w a (.func (.func F) #[] #[]) .plain rfl
  have k1 : ¬ (9223372036854775807 < mark.length + 1) := by omega
  have e : str mark ++ { data := #[61] } = str (mark ++ [61]) := str_append mark [61]
  go_enter Tryd.func43, Tryd.ntmps43
  go_wp2_with fail
  go_ret
  exact ⟨by rw [← e]; rfl, (Below.refl _ _).alloc (Nat.le_refl _) _⟩
theorem kind_sign (k : Int) (hk : 0 ≤ k ∧ k ≤ 3) : ∃ mark nt F, kindL k = kindV mark nt (decide (k = 3)) (.func (.func F) #[] #[]) ∧ mark ++ [61] = signL k ∧ mark.length ≤ 1 := by
  unfold kindL signL
  by_cases h0 : k = 0
  · subst h0; exact ⟨_, _, _, rfl, rfl, by simp⟩
  by_cases h1 : k = 1
  · subst h1; exact ⟨_, _, _, rfl, rfl, by simp⟩
  by_cases h2 : k = 2
  · subst h2; exact ⟨_, _, _, rfl, rfl, by simp⟩
  have h3 : k = 3 := by omega
  subst h3; exact ⟨_, _, _, rfl, rfl, by simp⟩
def quotesC (l : List (List UInt8)) : List Value := l.map fun x => .string (str (quoteL x))
theorem quotesC_take {l : List (List UInt8)} {i : Nat} (h : i < l.length) : quotesC (l.take (i + 1)) = quotesC (l.take i) ++ [.string (str (quoteL l[i]))] := by
  unfold quotesC; rw [List.take_succ_eq_append_getElem h, List.map_append]; rfl
set_option maxRecDepth 100000 in
set_option maxHeartbeats 2000000 in
theorem text_c (m : Mat) (A : Option Addr) (cap : Nat) (w : World) (hm : chkL m = true) (hS : StrsAt w A m.2.2.2.length m.2.2.2) :
    Calls Tryd.prog 26 #[.agg #[.int .i64 m.1, .string (str m.2.1), .string (str m.2.2.1), .slice A m.2.2.2.length cap]] w fun e w' => e = .returned (.string (str (textM m))) ∧ Below w.heap.size w w' := by
  have ck := fun W => kindOf_c m.1 W
  have hk := chkL_kind hm
  rw [decide_eq_true hk] at ck
  obtain ⟨mark, nt, F, ek, es, hml⟩ := kind_sign m.1 hk
  rw [ek] at ck
  obtain ⟨z1, z2, z3, z4⟩ := chkL_small hm
  unfold textM
  rw [← es]
  have hbl := bodyL_len hm
  have hs1 : m.1 = 3 → 1 ≤ m.2.2.2.length := fun e => by
    obtain ⟨_, h | h⟩ := chkL_is hm
    · exact (setL_len h.2.2).1
    · omega
  unfold bodyL at hbl ⊢
  obtain ⟨k, n, v, s⟩ := m
  simp only at ck hS z1 z2 z3 z4 hbl hs1 ⊢
  unfold kindV at ck
  have hst := fun (a : Addr) (w : World) => run_store Tryd.prog w a (.func (.func F) #[] #[]) .plain rfl
  have cs := fun W => sign_c mark nt (decide (k = 3)) F W (by omega)
  obtain ⟨M, hM⟩ : ∃ M, mark ++ [61] = M := ⟨_, rfl⟩
  have hMl : M.length ≤ 2 := by rw [← hM]; simp; omega
  rw [hM] at cs ⊢
  have d := blk_new w (.cells #[.int .i64 k, .string (str n), .string (str v), .slice A s.length cap] 30)
  have hba : Below w.heap.size w (w.alloc (.cells #[.int .i64 k, .string (str n), .string (str v), .slice A s.length cap] 30)) := (Below.refl _ _).alloc (Nat.le_refl _) _
  have hsa : w.heap.size < (w.alloc (.cells #[.int .i64 k, .string (str n), .string (str v), .slice A s.length cap] 30)).heap.size := by simp
  obtain ⟨many, hmany⟩ : ∃ b, decide (k = 3) = b := ⟨_, rfl⟩
  rw [hmany] at ck cs
  have hq1 : ∀ W1, Below (w.alloc (.cells #[.int .i64 k, .string (str n), .string (str v), .slice A s.length cap] 30)).heap.size (w.alloc (.cells #[.int .i64 k, .string (str n), .string (str v), .slice A s.length cap] 30)) W1 →
      (w.heap.size < W1.heap.size ∧ W1.cell? ⟨w.heap.size, 0, none⟩ = some (.int .i64 k) ∧ W1.cell? ⟨w.heap.size, 1, none⟩ = some (.string (str n)) ∧ W1.cell? ⟨w.heap.size, 2, none⟩ = some (.string (str v)) ∧ W1.cell? ⟨w.heap.size, 3, none⟩ = some (.slice A s.length cap)) ∧ Below w.heap.size w W1 := fun W1 h1 => by
    have x2 := (h1.block w.heap.size hsa).trans d
    have := h1.size
    exact ⟨⟨by omega, blk_cell x2 0, blk_cell x2 1, blk_cell x2 2, blk_cell x2 3⟩, hba.trans (h1.mono (by omega))⟩
  have hq : ∀ W1 W, Below (w.alloc (.cells #[.int .i64 k, .string (str n), .string (str v), .slice A s.length cap] 30)).heap.size (w.alloc (.cells #[.int .i64 k, .string (str n), .string (str v), .slice A s.length cap] 30)) W1 →
      Below (W1.alloc (.cells #[.string (str mark), .bool nt, .bool many, .func (.func F) #[] #[]] 43)).heap.size (W1.alloc (.cells #[.string (str mark), .bool nt, .bool many, .func (.func F) #[] #[]] 43)) W →
      W.cell? ⟨W1.heap.size, 0, none⟩ = some (.string (str mark)) ∧ W.cell? ⟨W1.heap.size, 1, none⟩ = some (.bool nt) ∧ W.cell? ⟨W1.heap.size, 2, none⟩ = some (.bool many) ∧ W.cell? ⟨W1.heap.size, 3, none⟩ = some (.func (.func F) #[] #[]) ∧
      W.cell? ⟨w.heap.size, 0, none⟩ = some (.int .i64 k) ∧ W.cell? ⟨w.heap.size, 1, none⟩ = some (.string (str n)) ∧ W.cell? ⟨w.heap.size, 2, none⟩ = some (.string (str v)) ∧ W.cell? ⟨w.heap.size, 3, none⟩ = some (.slice A s.length cap) ∧
      Below (W1.alloc (.cells #[.string (str mark), .bool nt, .bool many, .func (.func F) #[] #[]] 43)).heap.size (W1.alloc (.cells #[.string (str mark), .bool nt, .bool many, .func (.func F) #[] #[]] 43)) W := fun W1 W h1 h2 => by
    have hs1 := h1.size
    have x1 := (h2.block W1.heap.size (by simp)).trans (blk_new W1 _)
    have hx := h1.trans ((((Below.refl _ W1).alloc (Nat.le_refl _) _).mono hs1).trans (h2.mono (by simp at hs1 ⊢; omega)))
    have x2 := (hx.block w.heap.size hsa).trans d
    exact ⟨blk_cell x1 0, blk_cell x1 1, blk_cell x1 2, blk_cell x1 3, blk_cell x2 0, blk_cell x2 1, blk_cell x2 2, blk_cell x2 3, h2⟩
  have hbe : ∀ W1 W, Below (w.alloc (.cells #[.int .i64 k, .string (str n), .string (str v), .slice A s.length cap] 30)).heap.size (w.alloc (.cells #[.int .i64 k, .string (str n), .string (str v), .slice A s.length cap] 30)) W1 →
      Below (W1.alloc (.cells #[.string (str mark), .bool nt, .bool many, .func (.func F) #[] #[]] 43)).heap.size (W1.alloc (.cells #[.string (str mark), .bool nt, .bool many, .func (.func F) #[] #[]] 43)) W → Below w.heap.size w W := fun W1 W h1 h2 => by
    have hs1 := h1.size
    exact hba.trans ((h1.trans ((((Below.refl _ W1).alloc (Nat.le_refl _) _).mono hs1).trans (h2.mono (by simp at hs1 ⊢; omega)))).mono (by omega))
  have HQ1 := Lib.hid hq1
  have HQ := Lib.hid hq
  have HBE := Lib.hid hbe
  have HS := Lib.hid hS
  clear d hq1 hq hbe hS hM es
  by_cases h3 : k = 3
  · subst h3
    rw [if_pos rfl] at hbl ⊢
    obtain rfl : many = true := by rw [← hmany]; rfl
    have hs1 := hs1 rfl
    clear ek hmany hm hk
    obtain ⟨i0, hi0, hz0, hz1, hz2⟩ := info_parts str_info
    go_enter Tryd.func26, Tryd.ntmps26
    go_wp2_with (go_at_call 19; refine (ck _).mono ?_; rintro e w1 ⟨rfl, hb1⟩; obtain ⟨⟨r0, r1, r2, r3, r4⟩, hbw1⟩ := HQ1.out _ hb1; dsimp only)
    have HB1 := Lib.hid hb1
    clear hb1
    obtain ⟨w2, hw2⟩ : ∃ w2, w2 = w1.alloc (.cells #[.string (str mark), .bool nt, .bool true, .func (.func F) #[] #[]] 43) := ⟨_, rfl⟩
    rw [← hw2]
    have hb2 := HBE.out w1 w2 HB1.out (by rw [hw2]; exact Below.refl _ _)
    have HF : Hid (∀ W, Below w2.heap.size w2 W → W.cell? ⟨w1.heap.size, 0, none⟩ = some (.string (str mark)) ∧ W.cell? ⟨w1.heap.size, 1, none⟩ = some (.bool nt) ∧ W.cell? ⟨w1.heap.size, 2, none⟩ = some (.bool true) ∧ W.cell? ⟨w1.heap.size, 3, none⟩ = some (.func (.func F) #[] #[]) ∧
      W.cell? ⟨w.heap.size, 0, none⟩ = some (.int .i64 3) ∧ W.cell? ⟨w.heap.size, 1, none⟩ = some (.string (str n)) ∧ W.cell? ⟨w.heap.size, 2, none⟩ = some (.string (str v)) ∧ W.cell? ⟨w.heap.size, 3, none⟩ = some (.slice A s.length cap) ∧ Below w2.heap.size w2 W) := by
      rw [hw2]; exact fun W hW => HQ.out w1 W HB1.out hW
    clear hw2 HQ HQ1
    have hS2 := HS.out.below hb2
    have HBW := Lib.hid hb2
    go_loopw [5, 29] (fun u c wr => ∃ i : Nat, i ≤ s.length ∧ c = .int .i64 i ∧ wr.ownsRow w2.heap.size 9 1 u i (quotesC (s.take i)) ∧ (u = .slice none 0 0 ∨ ∃ g cp, u = .slice (some ⟨g, 0, none⟩) i cp) ∧ Below w2.heap.size w2 wr) (fun _ c _ => s.length - (intOf c).toNat)
    case atStart => exact ⟨0, Nat.zero_le _, rfl, ⟨rfl, .inl ⟨rfl, rfl⟩⟩, .inl rfl, Below.refl _ _⟩
    case round =>
      obtain ⟨i, hi, rfl, hown, hv, hb⟩ := hrel
      have hsz := hb.size
      by_cases hlt : i < s.length
      · obtain ⟨-, ad, rfl, h2, h3⟩ := (hS2.below hb).2 i hlt
        have hst2 := quotesC_take hlt
        have zx := z4 _ (List.getElem_mem hlt)
        obtain ⟨x, hx⟩ : ∃ x, s[i]'hlt = x := ⟨_, rfl⟩
        rw [hx] at hst2 h3 zx
        have HST := Lib.hid hst2
        have c1 := fun W => quote_c x W (by omega)
        obtain ⟨Q, hQ⟩ : ∃ Q, quoteL x = Q := ⟨_, rfl⟩
        rw [hQ] at c1 HST
        have hlow := Lib.hid (ownLow hown)
        have HO := Lib.hid hown
        clear hst2 hx hown hQ
        rcases hv with rfl | ⟨g, cp, rfl⟩
        all_goals
          go_wp2_with (first | (go_at_call 44; refine (c1 _).mono ?_; rintro e w3 ⟨rfl, hb3⟩; have hs3 := hb3.size; have hb23 := below2 hb hb3 hsz; have HO3 := Lib.hid (((Keeps.below (F := []) hb3).row HO.out (by simp)).alloc (.cells #[.string (str Q)] 9)); dsimp only) | (at_builtin; refine wpList_append_lies _ rfl (.tmp 33) (.tmp 36) 28 rfl w2.heap.size 9 i0 (.string (str [])) 1 16 Tryd.underlying28 hi0 hz0 hz1 hz2 rfl (by decide) _ i (quotesC (s.take i)) rfl HO3.out ⟨w3.heap.size, 0, none⟩ 1 1 [.string (str Q)] rfl rfl (cell_one_new _ _ _) (by intro u hu; simp at hu; subst hu; rfl) (by decide) (by unfold maxLen; omega) (by omega) (by have := hb23.size; simp; omega) _ rfl ?c6))
          case c6 =>
            intro g1 cap1 w4 hown1 hg1 _ hl1
            have hb4 : Below w2.heap.size w2 w4 := (hb23.alloc hb23.size _).grown hg1 (by have := hb23.size; simp; omega) hlow.out
            rw [← HST.out] at hown1
            have HW := Lib.hid (And.intro hown1 hb4)
            clear hown1 hg1 hb4
            go_wp2_with fail
            go_roundw
            case rel => exact ⟨i + 1, by omega, by go_num, HW.out.1, .inr ⟨g1, cap1, rfl⟩, HW.out.2⟩
            case measure => simp [intOf]; omega
      · obtain rfl : i = s.length := by omega
        rw [List.take_length] at hown
        have hjoin : Lib.join ((s.map fun x => str (quoteL x)).map (·.data.toList)) (str [124]).data.toList = joinQ s := by
          unfold joinQ
          rw [List.map_map, str_data]
          congr 1
        obtain ⟨J, hJ⟩ : ∃ J, joinQ s = J := ⟨_, rfl⟩
        rw [hJ] at hjoin hbl
        have HJE := Lib.hid hJ
        have HJ := Lib.hid hjoin
        have k1 : ¬ (9223372036854775807 < n.length + M.length) := by omega
        have k2 : ¬ (9223372036854775807 < n.length + M.length + J.length) := by omega
        have e1 : Hid (str n ++ str M ++ { data := J.toArray } = str (n ++ (M ++ joinQ s))) := by show str n ++ str M ++ str J = _; rw [str_append, str_append, List.append_assoc, HJE.out]
        have HBX := Lib.hid (fun W hW => HBE.out w1 W HB1.out hW)
        clear hjoin hJ
        rcases hv with rfl | ⟨g, cp, rfl⟩
        · rcases hown.2 with ⟨_, h⟩ | ⟨_, _, _, e, _⟩
          · omega
          · cases e
        have hcells : ∀ (j : Nat) x, (s.map fun x => str (quoteL x))[j]? = some x → wr.cell? ⟨g, 0 + j, none⟩ = some (.string x) := by
          intro j x hx
          rw [Nat.zero_add]
          have hj : j < s.length := by
            have := (List.getElem?_eq_some_iff.1 hx).1
            simpa using this
          rw [hown.cellAt j (by omega)]
          rw [List.getElem?_map, List.getElem?_eq_getElem hj] at hx
          unfold quotesC
          rw [List.getElem?_map, List.getElem?_eq_getElem hj]
          injection hx with hx
          rw [← hx]; rfl
        have hgl := ownLt hown g rfl
        have hcp : s.length ≤ cp := by
          rcases hown.2 with ⟨e, _⟩ | ⟨_, _, _, e, _, _, h, _⟩
          · cases e
          · injection e with _ _ e; omega
        have HCE : Hid (∀ W, Below wr.heap.size wr W → (∀ (j : Nat) x, (s.map fun x => str (quoteL x))[j]? = some x → W.cell? ⟨g, 0 + j, none⟩ = some (.string x)) ∧ g < W.heap.size) := fun W hW => ⟨fun j x hx => (hW.cell (p := ⟨g, 0 + j, none⟩) hgl).trans (hcells j x hx), Nat.lt_of_lt_of_le hgl hW.size⟩
        have cj := fun W h1 h2 => Tryd.strings_Join g 0 cp (s.map fun x => str (quoteL x)) (str [124]) W h1 h2 (by rw [List.length_map]; omega) (by rw [List.length_map]; exact hcp) (by rw [HJ.out]; omega)
        rw [HJ.out, List.length_map] at cj
        clear hown hcells hgl
        go_wp2_with fail
        refine wp_region_held_drew (S := fun W => W.cell? ⟨w1.heap.size, 0, none⟩ = some (.string (str mark)) ∧ W.cell? ⟨w1.heap.size, 1, none⟩ = some (.bool nt) ∧ W.cell? ⟨w1.heap.size, 2, none⟩ = some (.bool true) ∧ W.cell? ⟨w1.heap.size, 3, none⟩ = some (.func (.func F) #[] #[]) ∧
          W.cell? ⟨w.heap.size, 0, none⟩ = some (.int .i64 3) ∧ W.cell? ⟨w.heap.size, 1, none⟩ = some (.string (str n)) ∧ W.cell? ⟨w.heap.size, 2, none⟩ = some (.string (str v)) ∧ W.cell? ⟨w.heap.size, 3, none⟩ = some (.slice A s.length cap) ∧ Below w2.heap.size w2 W) (by kernel_rfl) (HF.out _ (Below.drew hb)) (fun hHeld => ?_)
        refine held_w (i := 0) (d := some 39) (v := ?_) rfl (by kernel_rfl) (by kernel_rfl) (by kernel_rfl) (fun _ _ _ h => h) (by rfl) ?_ hHeld ?_
        rotate_left
        · intro w' hSw; obtain ⟨q0, q1, q2, q3, q4, q5, q6, q7, q8⟩ := hSw; simp only [List.getElem?_toArray, List.getElem?_cons_zero, List.getElem?_cons_succ]; go_simp; try with_reducible rfl
        try simp only [Act.put, List.setIfInBounds_toArray, List.set_cons_zero, List.set_cons_succ]
        refine held_w (i := 1) (d := some 40) (v := ?_) rfl (by kernel_rfl) (by kernel_rfl) (by kernel_rfl) (fun _ _ _ h => h) (by rfl) ?_ hHeld ?_
        rotate_left
        · intro w' hSw; obtain ⟨q0, q1, q2, q3, q4, q5, q6, q7, q8⟩ := hSw; simp only [List.getElem?_toArray, List.getElem?_cons_zero, List.getElem?_cons_succ]; go_simp; try with_reducible rfl
        try simp only [Act.put, List.setIfInBounds_toArray, List.set_cons_zero, List.set_cons_succ]
        refine held_w (i := 2) (d := some 41) (v := ?_) rfl (by kernel_rfl) (by kernel_rfl) (by kernel_rfl) (fun _ _ _ h => h) (by rfl) ?_ hHeld ?_
        rotate_left
        · intro w' hSw; obtain ⟨q0, q1, q2, q3, q4, q5, q6, q7, q8⟩ := hSw; simp only [List.getElem?_toArray, List.getElem?_cons_zero, List.getElem?_cons_succ]; go_simp; try with_reducible rfl
        try simp only [Act.put, List.setIfInBounds_toArray, List.set_cons_zero, List.set_cons_succ]
        refine held_w (i := 5) (d := some 44) (v := ?_) rfl (by kernel_rfl) (by kernel_rfl) (by kernel_rfl) (fun _ _ _ h => h) (by rfl) ?_ hHeld ?_
        rotate_left
        · intro w' hSw; obtain ⟨q0, q1, q2, q3, q4, q5, q6, q7, q8⟩ := hSw; simp only [List.getElem?_toArray, List.getElem?_cons_zero, List.getElem?_cons_succ]; go_simp; try with_reducible rfl
        try simp only [Act.put, List.setIfInBounds_toArray, List.set_cons_zero, List.set_cons_succ]
        refine held_c (i := 3) (by kernel_rfl) (by rfl) (fun K hK => ?_)
        simp only [List.getElem?_toArray, List.getElem?_cons_zero, List.getElem?_cons_succ]
        go_simp
        refine (cs _).mono ?_
        rintro e w3 ⟨rfl, hb3⟩
        have hbr := below_of_drew hb3
        have hb23 := below2 hHeld.2.2.2.2.2.2.2.2 hb3 hHeld.2.2.2.2.2.2.2.2.size
        refine hK.out _ _ (HF.out _ hb23) (fun hHeld => ?_)
        clear hK K hb3
        try simp only [Act.put, List.setIfInBounds_toArray, List.set_cons_zero, List.set_cons_succ]
        refine held_w (i := 4) (d := some 43) (v := ?_) rfl (by kernel_rfl) (by kernel_rfl) (by kernel_rfl) (fun _ _ _ h => h) (by rfl) ?_ hHeld ?_
        rotate_left
        · intro w' hSw; obtain ⟨q0, q1, q2, q3, q4, q5, q6, q7, q8⟩ := hSw; simp only [List.getElem?_toArray, List.getElem?_cons_zero, List.getElem?_cons_succ]; go_simp; try with_reducible rfl
        try simp only [Act.put, List.setIfInBounds_toArray, List.set_cons_zero, List.set_cons_succ]
        refine held_c (i := 6) (by kernel_rfl) (by rfl) (fun K hK => ?_)
        simp only [List.getElem?_toArray, List.getElem?_cons_zero, List.getElem?_cons_succ]
        go_simp
        refine (cj _ (HCE.out _ hbr).1 (HCE.out _ hbr).2).mono ?_
        rintro e w4 ⟨rfl, hb4⟩
        have hb24 := below2 hHeld.2.2.2.2.2.2.2.2 hb4 hHeld.2.2.2.2.2.2.2.2.size
        refine hK.out _ _ (HF.out _ hb24) (fun hHeld => ?_)
        clear hK K hb4
        try simp only [Act.put, List.setIfInBounds_toArray, List.set_cons_zero, List.set_cons_succ]
        refine held_w (i := 7) (d := some 46) (v := ?_) rfl (by kernel_rfl) (by kernel_rfl) (by kernel_rfl) (fun _ _ _ h => h) (by rfl) ?_ hHeld ?_
        rotate_left
        · intro w' hSw; obtain ⟨q0, q1, q2, q3, q4, q5, q6, q7, q8⟩ := hSw; simp only [List.getElem?_toArray, List.getElem?_cons_zero, List.getElem?_cons_succ]; go_simp; try with_reducible rfl
        try simp only [Act.put, List.setIfInBounds_toArray, List.set_cons_zero, List.set_cons_succ]
        refine held_w (i := 8) (d := some 2) (v := ?_) rfl (by kernel_rfl) (by kernel_rfl) (by kernel_rfl) (fun _ _ _ h => h) (by rfl) ?_ hHeld ?_
        rotate_left
        · intro w' hSw; obtain ⟨q0, q1, q2, q3, q4, q5, q6, q7, q8⟩ := hSw; simp only [List.getElem?_toArray, List.getElem?_cons_zero, List.getElem?_cons_succ]; go_simp; try with_reducible rfl
        try simp only [Act.put, List.setIfInBounds_toArray, List.set_cons_zero, List.set_cons_succ]
        refine wpAnyH_done (by kernel_rfl) ?_ _
        go_wp2_with fail
        go_ret
        exact ⟨by rw [← e1.out]; rfl, HBW.out.trans (hHeld.2.2.2.2.2.2.2.2.mono (by have := HBW.out.size; omega))⟩
  · rw [if_neg h3] at hbl ⊢
    obtain rfl : many = false := by rw [← hmany]; simp [h3]
    clear ek hmany hm hk h3 hs1
    have cq := fun W => quote_c v W (by omega)
    obtain ⟨Q, hQ⟩ : ∃ Q, quoteL v = Q := ⟨_, rfl⟩
    rw [hQ] at cq hbl ⊢
    clear hQ
    have k1 : ¬ (9223372036854775807 < n.length + M.length) := by omega
    have k2 : ¬ (9223372036854775807 < n.length + M.length + Q.length) := by omega
    have e1 : Hid (str n ++ str M ++ str Q = str (n ++ (M ++ Q))) := by show _ = _; rw [str_append, str_append, List.append_assoc]
    go_enter Tryd.func26, Tryd.ntmps26
    go_wp2_with (go_at_call 19; refine (ck _).mono ?_; rintro e w1 ⟨rfl, hb1⟩; obtain ⟨⟨r0, r1, r2, r3, r4⟩, hbw1⟩ := HQ1.out _ hb1; dsimp only)
    have HB1 := Lib.hid hb1
    clear hb1
    refine wp_region_held_drew (S := fun W => W.cell? ⟨w1.heap.size, 0, none⟩ = some (.string (str mark)) ∧ W.cell? ⟨w1.heap.size, 1, none⟩ = some (.bool nt) ∧ W.cell? ⟨w1.heap.size, 2, none⟩ = some (.bool false) ∧ W.cell? ⟨w1.heap.size, 3, none⟩ = some (.func (.func F) #[] #[]) ∧
      W.cell? ⟨w.heap.size, 0, none⟩ = some (.int .i64 k) ∧ W.cell? ⟨w.heap.size, 1, none⟩ = some (.string (str n)) ∧ W.cell? ⟨w.heap.size, 2, none⟩ = some (.string (str v)) ∧ W.cell? ⟨w.heap.size, 3, none⟩ = some (.slice A s.length cap) ∧
      Below (w1.alloc (.cells #[.string (str mark), .bool nt, .bool false, .func (.func F) #[] #[]] 43)).heap.size (w1.alloc (.cells #[.string (str mark), .bool nt, .bool false, .func (.func F) #[] #[]] 43)) W) (by kernel_rfl) (HQ.out _ _ HB1.out (Below.drew (Below.refl _ _))) (fun hHeld => ?_)
    refine held_w (i := 0) (d := some 17) (v := ?_) rfl (by kernel_rfl) (by kernel_rfl) (by kernel_rfl) (fun _ _ _ h => h) (by rfl) ?_ hHeld ?_
    rotate_left
    · intro w' hSw; obtain ⟨q0, q1, q2, q3, q4, q5, q6, q7, q8⟩ := hSw; simp only [List.getElem?_toArray, List.getElem?_cons_zero, List.getElem?_cons_succ]; go_simp; try with_reducible rfl
    try simp only [Act.put, List.setIfInBounds_toArray, List.set_cons_zero, List.set_cons_succ]
    refine held_w (i := 1) (d := some 18) (v := ?_) rfl (by kernel_rfl) (by kernel_rfl) (by kernel_rfl) (fun _ _ _ h => h) (by rfl) ?_ hHeld ?_
    rotate_left
    · intro w' hSw; obtain ⟨q0, q1, q2, q3, q4, q5, q6, q7, q8⟩ := hSw; simp only [List.getElem?_toArray, List.getElem?_cons_zero, List.getElem?_cons_succ]; go_simp; try with_reducible rfl
    try simp only [Act.put, List.setIfInBounds_toArray, List.set_cons_zero, List.set_cons_succ]
    refine held_w (i := 2) (d := some 19) (v := ?_) rfl (by kernel_rfl) (by kernel_rfl) (by kernel_rfl) (fun _ _ _ h => h) (by rfl) ?_ hHeld ?_
    rotate_left
    · intro w' hSw; obtain ⟨q0, q1, q2, q3, q4, q5, q6, q7, q8⟩ := hSw; simp only [List.getElem?_toArray, List.getElem?_cons_zero, List.getElem?_cons_succ]; go_simp; try with_reducible rfl
    try simp only [Act.put, List.setIfInBounds_toArray, List.set_cons_zero, List.set_cons_succ]
    refine held_w (i := 5) (d := some 22) (v := ?_) rfl (by kernel_rfl) (by kernel_rfl) (by kernel_rfl) (fun _ _ _ h => h) (by rfl) ?_ hHeld ?_
    rotate_left
    · intro w' hSw; obtain ⟨q0, q1, q2, q3, q4, q5, q6, q7, q8⟩ := hSw; simp only [List.getElem?_toArray, List.getElem?_cons_zero, List.getElem?_cons_succ]; go_simp; try with_reducible rfl
    try simp only [Act.put, List.setIfInBounds_toArray, List.set_cons_zero, List.set_cons_succ]
    refine held_w (i := 6) (d := some 23) (v := ?_) rfl (by kernel_rfl) (by kernel_rfl) (by kernel_rfl) (fun _ _ _ h => h) (by rfl) ?_ hHeld ?_
    rotate_left
    · intro w' hSw; obtain ⟨q0, q1, q2, q3, q4, q5, q6, q7, q8⟩ := hSw; simp only [List.getElem?_toArray, List.getElem?_cons_zero, List.getElem?_cons_succ]; go_simp; try with_reducible rfl
    try simp only [Act.put, List.setIfInBounds_toArray, List.set_cons_zero, List.set_cons_succ]
    refine held_c (i := 3) (by kernel_rfl) (by rfl) (fun K hK => ?_)
    simp only [List.getElem?_toArray, List.getElem?_cons_zero, List.getElem?_cons_succ]
    go_simp
    refine (cs _).mono ?_
    rintro e w3 ⟨rfl, hb3⟩
    have hb23 := below2 hHeld.2.2.2.2.2.2.2.2 hb3 hHeld.2.2.2.2.2.2.2.2.size
    refine hK.out _ _ (HQ.out _ _ HB1.out hb23) (fun hHeld => ?_)
    clear hK K hb3
    try simp only [Act.put, List.setIfInBounds_toArray, List.set_cons_zero, List.set_cons_succ]
    refine held_w (i := 4) (d := some 21) (v := ?_) rfl (by kernel_rfl) (by kernel_rfl) (by kernel_rfl) (fun _ _ _ h => h) (by rfl) ?_ hHeld ?_
    rotate_left
    · intro w' hSw; obtain ⟨q0, q1, q2, q3, q4, q5, q6, q7, q8⟩ := hSw; simp only [List.getElem?_toArray, List.getElem?_cons_zero, List.getElem?_cons_succ]; go_simp; try with_reducible rfl
    try simp only [Act.put, List.setIfInBounds_toArray, List.set_cons_zero, List.set_cons_succ]
    refine held_c (i := 7) (by kernel_rfl) (by rfl) (fun K hK => ?_)
    simp only [List.getElem?_toArray, List.getElem?_cons_zero, List.getElem?_cons_succ]
    go_simp
    refine (cq _).mono ?_
    rintro e w4 ⟨rfl, hb4⟩
    have hb24 := below2 hHeld.2.2.2.2.2.2.2.2 hb4 hHeld.2.2.2.2.2.2.2.2.size
    refine hK.out _ _ (HQ.out _ _ HB1.out hb24) (fun hHeld => ?_)
    clear hK K hb4
    try simp only [Act.put, List.setIfInBounds_toArray, List.set_cons_zero, List.set_cons_succ]
    refine held_w (i := 8) (d := some 25) (v := ?_) rfl (by kernel_rfl) (by kernel_rfl) (by kernel_rfl) (fun _ _ _ h => h) (by rfl) ?_ hHeld ?_
    rotate_left
    · intro w' hSw; obtain ⟨q0, q1, q2, q3, q4, q5, q6, q7, q8⟩ := hSw; simp only [List.getElem?_toArray, List.getElem?_cons_zero, List.getElem?_cons_succ]; go_simp; try with_reducible rfl
    try simp only [Act.put, List.setIfInBounds_toArray, List.set_cons_zero, List.set_cons_succ]
    refine held_w (i := 9) (d := some 2) (v := ?_) rfl (by kernel_rfl) (by kernel_rfl) (by kernel_rfl) (fun _ _ _ h => h) (by rfl) ?_ hHeld ?_
    rotate_left
    · intro w' hSw; obtain ⟨q0, q1, q2, q3, q4, q5, q6, q7, q8⟩ := hSw; simp only [List.getElem?_toArray, List.getElem?_cons_zero, List.getElem?_cons_succ]; go_simp; try with_reducible rfl
    try simp only [Act.put, List.setIfInBounds_toArray, List.set_cons_zero, List.set_cons_succ]
    refine wpAnyH_done (by kernel_rfl) ?_ _
    go_wp2_with fail
    go_ret
    exact ⟨by rw [← e1.out]; rfl, HBE.out _ _ HB1.out hHeld.2.2.2.2.2.2.2.2⟩
def textsC (l : List Mat) : List Value := l.map fun x => .string (str (textM x))
theorem textsC_take {l : List Mat} {i : Nat} (h : i < l.length) : textsC (l.take (i + 1)) = textsC (l.take i) ++ [.string (str (textM l[i]))] := by
  unfold textsC; rw [List.take_succ_eq_append_getElem h, List.map_append]; rfl
theorem okMs_bad {ms : List Mat} {i : Nat} (h : i < ms.length) (hc : chkL ms[i] = false) : okMs ms = false := by
  unfold okMs
  rw [show ms.all chkL = false by
    apply Bool.eq_false_iff.2
    intro e
    have := (List.all_eq_true.1 e) _ (List.getElem_mem h)
    rw [hc] at this; cases this]
  simp
set_option maxRecDepth 100000 in
set_option maxHeartbeats 2000000 in
theorem mprint_c (A : Option Addr) (len cap : Nat) (ms : List Mat) (w : World) (hl : len ≤ 9223372036854775807) (hM : MsAt w A len ms) (hsm : ∀ m ∈ ms, smallM m) (hT : Lib.Utf8Tabs 1 2 w) :
    Calls Tryd.prog 14 #[.slice A len cap] w fun e w' => e = .returned (.tuple #[.string (str (if okMs ms = true then printM ms else [])), .int .i64 (eM (okMs ms))]) ∧ Below w.heap.size w w' := by
  have hle := hM.1
  subst hle
  obtain ⟨i0, hi0, hz0, hz1, hz2⟩ := info_parts str_info
  obtain ⟨R, hR⟩ : ∃ R, (if okMs ms = true then printM ms else []) = R := ⟨_, rfl⟩
  obtain ⟨E, hE⟩ : ∃ E, eM (okMs ms) = E := ⟨_, rfl⟩
  rw [hR, hE]
  have hbad : okMs ms = false → R = [] ∧ E = 50 := fun h => by rw [← hR, ← hE, h]; exact ⟨rfl, rfl⟩
  have hgood : okMs ms = true → printM ms = R ∧ E = 0 := fun h => by rw [← hR, ← hE, h]; exact ⟨rfl, rfl⟩
  have HBAD := Lib.hid hbad
  have HGOOD := Lib.hid hgood
  clear hR hE hbad hgood
  go_enter Tryd.func14, Tryd.ntmps14
  go_wp2_with fail
  go_loopw [12] (fun c wr => ∃ i : Nat, i ≤ ms.length ∧ c = .int .i64 i ∧ Hid (∀ m ∈ ms.take i, chkL m = true) ∧ Below w.heap.size w wr) (fun c _ => ms.length - (intOf c).toNat)
  case atStart => exact ⟨0, Nat.zero_le _, rfl, by intro m hm; simp at hm, Below.refl _ _⟩
  case round =>
    obtain ⟨i, hi, rfl, HI, hb⟩ := hrel
    have hsz := hb.size
    by_cases hlt : i < ms.length
    · obtain ⟨⟨r1, r2, r3, r4, r5⟩, ad, rfl, h2, h3, h4, h5, S, cS, h6, h7⟩ := (hM.below hb).2 i hlt
      have hms := hsm _ (List.getElem_mem hlt)
      have hbd := fun h => okMs_bad hlt h
      have hnx : chkL (ms[i]'hlt) = true → ∀ m ∈ ms.take (i + 1), chkL m = true := fun h m hm => by
        rw [List.take_succ_eq_append_getElem hlt] at hm
        rcases List.mem_append.1 hm with hm | hm
        · exact HI.out m hm
        · simp at hm; rw [hm]; exact h
      obtain ⟨m, hm⟩ : ∃ m, ms[i]'hlt = m := ⟨_, rfl⟩
      rw [hm] at h3 h4 h5 h6 h7 r1 r2 r3 r4 r5 hms hbd hnx
      clear hm
      have hbc := (Below.refl wr.heap.size wr).alloc (Nat.le_refl _) (.cells #[.int .i64 m.1, .string (str m.2.1), .string (str m.2.2.1), .slice S m.2.2.2.length cS] 30)
      have c1 := mcheck_c m S cS _ hms (h7.below hbc) (Utf8Tabs_below (Utf8Tabs_below hT hb) hbc)
      have HC1 := Lib.hid c1
      have HS := Lib.hid h7
      clear h7 c1
      cases hq : chkL m with
      | true =>
        have HNX := Lib.hid (hnx hq)
        rw [hq] at HC1
        have e0 : eM true = 0 := rfl
        rw [e0] at HC1
        clear hnx hbd hq e0
        go_wp2_with (go_at_call 8; refine HC1.out.mono ?_; rintro e w1 ⟨rfl, hb1⟩; have hb2 := hb.trans ((hbc.mono hsz).trans (hb1.mono (by have := hbc.size; omega))); dsimp only)
        go_roundw
        case rel => exact ⟨i + 1, by omega, by go_num, HNX.out, hb2⟩
        case measure => simp [intOf]; omega
      | false =>
        obtain ⟨hR0, hE0⟩ := HBAD.out (hbd hq)
        subst hR0 hE0
        rw [hq] at HC1
        have e0 : eM false = 50 := rfl
        rw [e0] at HC1
        clear hnx hbd hq e0
        go_wp2_with (go_at_call 8; refine HC1.out.mono ?_; rintro e w1 ⟨rfl, hb1⟩; have hb2 := hb.trans ((hbc.mono hsz).trans (hb1.mono (by have := hbc.size; omega))); dsimp only)
        go_ret2
        exact ⟨rfl, hb2⟩
    · obtain rfl : i = ms.length := by omega
      have hall := HI.out
      rw [List.take_length] at hall
      clear HI
      by_cases h8 : 8 < (ms.length : Int)
      · have ho : okMs ms = false := by unfold okMs; rw [show decide (ms.length ≤ 8) = false by simp; omega]; rfl
        obtain ⟨hR0, hE0⟩ := HBAD.out ho
        subst hR0 hE0
        clear ho hall
        go_wp2_with fail
        go_ret2
        exact ⟨rfl, hb⟩
      · have ho : okMs ms = true := by unfold okMs; rw [show decide (ms.length ≤ 8) = true by simp; omega, Bool.true_and, List.all_eq_true]; exact hall
        obtain ⟨hR0, hE0⟩ := HGOOD.out ho
        subst hE0
        have HR := Lib.hid hR0
        have hl8 : ms.length ≤ 8 := by omega
        have hpl := partsM_len hl8 hall
        have HALL := Lib.hid hall
        clear ho hall hR0 HBAD HGOOD h8
        go_wp2_with fail
        obtain ⟨wo, rfl⟩ : ∃ wo : World, wo = wr := ⟨_, rfl⟩
        go_loopw [7, 27] (fun u c wr => ∃ i : Nat, i ≤ ms.length ∧ c = .int .i64 i ∧ wr.ownsRow w.heap.size 9 1 u i (textsC (ms.take i)) ∧ (u = .slice none 0 0 ∨ ∃ g cp, u = .slice (some ⟨g, 0, none⟩) i cp) ∧ Below w.heap.size w wr) (fun _ c _ => ms.length - (intOf c).toNat)
        case atStart => exact ⟨0, Nat.zero_le _, rfl, ⟨rfl, .inl ⟨rfl, rfl⟩⟩, .inl rfl, hb⟩
        case round =>
          clear hb hsz
          obtain ⟨i, hi, rfl, hown, hv, hb⟩ := hrel
          have hsz := hb.size
          by_cases hlt : i < ms.length
          · obtain ⟨⟨r1, r2, r3, r4, r5⟩, ad, rfl, h2, h3, h4, h5, S, cS, h6, h7⟩ := (hM.below hb).2 i hlt
            have hst2 := textsC_take hlt
            have hck := HALL.out _ (List.getElem_mem hlt)
            obtain ⟨m, hm⟩ : ∃ m, ms[i]'hlt = m := ⟨_, rfl⟩
            rw [hm] at h3 h4 h5 h6 h7 r1 r2 r3 r4 r5 hst2 hck
            clear hm
            have hbc := (Below.refl wr.heap.size wr).alloc (Nat.le_refl _) (.cells #[.int .i64 m.1, .string (str m.2.1), .string (str m.2.2.1), .slice S m.2.2.2.length cS] 30)
            have c1 := text_c m S cS _ hck (h7.below hbc)
            obtain ⟨X, hX⟩ : ∃ X, textM m = X := ⟨_, rfl⟩
            rw [hX] at c1 hst2
            have HC1 := Lib.hid c1
            have HST := Lib.hid hst2
            have hlow := Lib.hid (ownLow hown)
            have HO := Lib.hid (hown.alloc (.cells #[.int .i64 m.1, .string (str m.2.1), .string (str m.2.2.1), .slice S m.2.2.2.length cS] 30))
            clear h7 c1 hst2 hown hck hX
            rcases hv with rfl | ⟨g, cp, rfl⟩
            all_goals
              go_wp2_with (first | (go_at_call 26; refine HC1.out.mono ?_; rintro e w3 ⟨rfl, hb3⟩; have hb23 := hb.trans ((hbc.mono hsz).trans (hb3.mono (by have := hbc.size; omega))); have HO3 := Lib.hid (((Keeps.below (F := []) hb3).row HO.out (by simp)).alloc (.cells #[.string (str X)] 9)); dsimp only) | (at_builtin; refine wpList_append_lies _ rfl (.tmp 31) (.tmp 34) 28 rfl w.heap.size 9 i0 (.string (str [])) 1 16 Tryd.underlying28 hi0 hz0 hz1 hz2 rfl (by decide) _ i (textsC (ms.take i)) rfl HO3.out ⟨w3.heap.size, 0, none⟩ 1 1 [.string (str X)] rfl rfl (cell_one_new _ _ _) (by intro u hu; simp at hu; subst hu; rfl) (by decide) (by unfold maxLen; omega) (by omega) (by have := hb23.size; simp; omega) _ rfl ?c6))
              case c6 =>
                intro g1 cap1 w4 hown1 hg1 _ hl1
                have hb4 : Below w.heap.size w w4 := (hb23.alloc hb23.size _).grown hg1 (by have := hb23.size; simp; omega) hlow.out
                rw [← HST.out] at hown1
                have HW := Lib.hid (And.intro hown1 hb4)
                clear hown1 hg1 hb4
                go_wp2_with fail
                go_roundw
                case rel => exact ⟨i + 1, by omega, by go_num, HW.out.1, .inr ⟨g1, cap1, rfl⟩, HW.out.2⟩
                case measure => simp [intOf]; omega
          · obtain rfl : i = ms.length := by omega
            rw [List.take_length] at hown
            have hjoin : Lib.join ((ms.map fun x => str (textM x)).map (·.data.toList)) (str [44]).data.toList = partsM ms := by
              unfold partsM
              rw [List.map_map, str_data]
              congr 1
            have hR' : R = 91 :: (partsM ms ++ [93]) := HR.out.symm
            obtain ⟨J, hJ⟩ : ∃ J, partsM ms = J := ⟨_, rfl⟩
            rw [hJ] at hjoin hpl hR'
            have HR' := Lib.hid hR'
            have HJ := Lib.hid hjoin
            have k1 : ¬ (9223372036854775807 < 1 + J.length) := by omega
            have k2 : ¬ (9223372036854775807 < J.length + 1 + 1) := by omega
            clear hjoin hJ hR'
            rcases hv with rfl | ⟨g, cp, rfl⟩
            · have hl0 : ms.length = 0 := by
                rcases hown.2 with ⟨_, h⟩ | ⟨_, _, _, e, _⟩
                · exact h
                · cases e
              have hj0 : J = [] := by
                obtain rfl : ms = [] := List.eq_nil_of_length_eq_zero hl0
                have := HJ.out
                exact this.symm
              subst hj0
              go_wp2_with (go_at_call 27; refine (Tryd.strings_Join_none none 0 (str [44]) _).mono ?_; rintro e w3 ⟨rfl, rfl⟩)
              go_ret2
              exact ⟨by rw [HR'.out]; rfl, hb⟩
            · have hcells : ∀ (j : Nat) x, (ms.map fun x => str (textM x))[j]? = some x → wr.cell? ⟨g, 0 + j, none⟩ = some (.string x) := by
                intro j x hx
                rw [Nat.zero_add]
                have hj : j < ms.length := by
                  have := (List.getElem?_eq_some_iff.1 hx).1
                  simpa using this
                rw [hown.cellAt j (by omega)]
                rw [List.getElem?_map, List.getElem?_eq_getElem hj] at hx
                unfold textsC
                rw [List.getElem?_map, List.getElem?_eq_getElem hj]
                injection hx with hx
                rw [← hx]; rfl
              have hgl := ownLt hown g rfl
              have hcp : ms.length ≤ cp := by
                rcases hown.2 with ⟨e, _⟩ | ⟨_, _, _, e, _, _, h, _⟩
                · cases e
                · injection e with _ _ e; omega
              have cj := fun W h1 h2 => Tryd.strings_Join g 0 cp (ms.map fun x => str (textM x)) (str [44]) W h1 h2 (by rw [List.length_map]; omega) (by rw [List.length_map]; exact hcp) (by rw [HJ.out]; omega)
              rw [HJ.out, List.length_map] at cj
              clear hown
              go_wp2_with (go_at_call 27; refine (cj _ hcells hgl).mono ?_; rintro e w3 ⟨rfl, hb3⟩)
              go_ret2
              have e1 : ({ data := #[91] } : ByteArray) ++ { data := J.toArray } ++ { data := #[93] } = str R := by
                show str [91] ++ str J ++ str [93] = _
                rw [str_append, str_append, HR'.out]; rfl
              exact ⟨by rw [← e1]; rfl, hb.trans (hb3.mono hsz)⟩
end Go.Proofs.YtopnnhjfcfhihaaDoor
