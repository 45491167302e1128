/-
  Layer 4 (label): the law LabelSorts returns true.
-/
import Derived.Test.YtopnnhjfcfhihaaLabelS2
import Derived.Test.YtopnnhjfcfhihaaLabelN
import Derived.Test.YtopnnhjfcfhihaaLabs
namespace Go.Proofs.Ytopnnhjfcfhihaa
open Go.RowKit Go.Deep
attribute [local go_sem] str_size str_append str_toList str_get str_extract
set_option linter.unusedVariables false
set_option linter.unusedSimpArgs false
theorem add_moreL (a : Addr) (m n : Nat) : (a.add m).add n = a.add (m + n) := by
  unfold Addr.add
  by_cases hm : m = 0
  · subst hm; simp
  · by_cases hn : n = 0
    · subst hn; simp [hm]
    · simp [hm, hn, Nat.add_assoc]
theorem lAt_cells {w : World} {ad : Addr} {m : Nat} {L : List Lab} (h : LAt w (some ad) m L) : ∀ j u, (labC L)[j]? = some u → w.cell? (ad.add j) = some u := by
  intro j u hu
  have hj : j < (labC L).length := (List.getElem?_eq_some_iff.1 hu).1
  rw [labC_length] at hj
  obtain ⟨_, ad', had, _, h3, h4⟩ := h.2 (j / 2) (by omega)
  obtain rfl : ad = ad' := by injection had
  have hc := labC_get L (j / 2) (by omega)
  rcases Nat.mod_two_eq_zero_or_one j with e | e
  · have e2 : j = 2 * (j / 2) := by omega
    rw [← e2] at hc
    rw [hc.1] at hu
    rw [show j = j / 2 * 2 by omega, h3]
    exact hu
  · have e2 : j = 2 * (j / 2) + 1 := by omega
    rw [← e2] at hc
    rw [hc.2] at hu
    have e3 : ad.add j = ⟨(ad.add (j / 2 * 2)).block, (ad.add (j / 2 * 2)).off + 1, none⟩ := by
      rw [show ad.add j = (ad.add (j / 2 * 2)).add 1 by rw [add_moreL]; congr 1; omega]
      rfl
    rw [e3, h4]
    exact hu
theorem labC_one (L : List Lab) : ∀ u ∈ labC L, u.oneCell' = true := by
  induction L with
  | nil => intro u hu; simp [labC] at hu
  | cons x r ih =>
    intro u hu
    simp only [labC, List.mem_cons] at hu
    rcases hu with rfl | rfl | hu
    · rfl
    · rfl
    · exact ih u hu
theorem app_labs {w : World} {ops : Array Oper} {rest : List Oper} {o : Oper} {a : Act} {Q : Exit → Act → World → Prop} (hgd : o.guard = none) (s x : Operand)
    (ho : o.op = .call { callee := .builtin .append, args := #[s, x], argTypes := #[22, 22] })
    (base : Nat) (A0 : Option Addr) (n cap0 : Nat) (l : List Lab) (hs : a.eval s = .slice A0 n cap0) (hown : w.ownsRow base 39 2 (.slice A0 n cap0) n (labC l))
    (A : Option Addr) (m c : Nat) (L : List Lab) (hx : a.eval x = .slice A m c) (hA : LAt w A m L) (n' : Nat) (l' : List Lab) (hn : n + m = n') (hl : l ++ L = l') (h63 : n' ≤ 10000) (hbase : base ≤ w.heap.size)
    (h : ∀ A' cap' w', w'.ownsRow base 39 2 (.slice A' n' cap') n' (labC l') → w.grownBy w' (Value.slice A0 n cap0).ownBlock → wpList Try.prog ops Q rest (a.put o.dst (.slice A' n' cap')) w') :
    wpList Try.prog ops Q (o :: rest) a w := by
  obtain ⟨i0, hi0, hz0, hz1, hz2⟩ := info_parts lab_info
  subst hn hl
  rw [labC_append] at h
  rcases A with _ | ad
  · have hm0 : m = 0 := by
      rcases Nat.eq_zero_or_pos m with h0 | h0
      · exact h0
      · obtain ⟨_, ad, e, _⟩ := hA.2 0 (by rw [← hA.1]; exact h0)
        cases e
    subst hm0
    have hL : L = [] := List.eq_nil_of_length_eq_zero hA.1.symm
    subst hL
    have hrun : (Builtin.append_ #[22, 22] o.type #[.slice A0 n cap0, .slice none 0 c]).run Try.prog w = .ok (.slice A0 n cap0) w := by
      rcases hown.2 with ⟨e, rfl⟩ | ⟨g, cap, cur, e, _, _, hnc, _⟩
      · injection e with e1 e2 e3
        subst e1 e3
        simp [Builtin.append_, run_underlying Try.underlying22, sizeOf, typeInfo, hi0, Builtin.lenOf, Builtin.firstCells]
      · injection e with e1 e2 e3
        subst e1 e3
        simp [Builtin.append_, run_underlying Try.underlying22, sizeOf, typeInfo, hi0, Builtin.lenOf, Builtin.firstCells, hnc, storeCells]
    refine wpList_plain hgd fun K hK => ?_
    unfold Oper.wp execOp
    simp only [ho, resolve, invoke, builtin, Sem.run_bind, Sem.run_pure, Result.andThen_ok, List.map_toArray, List.map_cons, List.map_nil, hs, hx, hrun]
    exact hK _ _ (h A0 cap0 w (by simpa [labC] using hown) (World.grownBy.refl w _))
  · refine wpList_append_own_at _ hgd s x 22 ho base 39 i0 (.agg #[.string (str []), .string (str [])]) 2 32 Try.underlying22 hi0 hz0 hz1 hz2 rfl (by decide) (.slice A0 n cap0) n _ hs hown ad m c (labC L) hx (by rw [labC_length, ← hA.1, Nat.mul_comm]) (lAt_cells hA) (labC_one L) (by unfold maxLen; omega) (by omega) hbase ?_
    intro v' w' h1 h2 _ _
    obtain ⟨A', cap', rfl⟩ := row_slice h1
    exact h A' cap' w' h1 h2
theorem made_lab (w : World) (base : Nat) (h : base ≤ w.heap.size) : (w.alloc (.cells #[] 39)).ownsRow base 39 2 (.slice (some ⟨w.heap.size, 0, none⟩) 0 0) 0 (labC []) := by
  obtain ⟨h1, h2⟩ := World.ownsRow_made (e := 39) (size := 2) w #[] 0 (Nat.le_refl _) (by unfold maxLen; omega) rfl
  refine ⟨rfl, ?_⟩
  rcases h2 with ⟨e, _⟩ | ⟨g, cap, cur, e, hB, rest⟩
  · cases e
  · exact .inr ⟨g, cap, cur, e, Nat.le_trans h hB, rest⟩
set_option maxHeartbeats 1000000 in
theorem law_LabelSorts (a0 : Option Addr) (len0 cap0 : Nat) (z0 : List Lab) (a1 : ByteArray) (w : World) (hl0 : len0 ≤ maxLen) (w0 : LAt w a0 len0 z0) (w1 : a1.size ≤ maxLen) :
    Calls Try.prog 3 #[.slice a0 len0 cap0, .string a1] w fun e w' => e = .returned (.bool true) ∧ Below w.heap.size w w' := by
  obtain ⟨n, rfl⟩ := str_of a1
  rw [str_size] at w1
  unfold maxLen at hl0 w1
  have ch := fun W h => heavy_c a0 len0 cap0 z0 W hl0 h
  cases hH : heavyL z0 with
  | true =>
    rw [hH] at ch
    go_enter Try.func3, Try.ntmps3
    go_wp2_with (go_at_call 7; refine (ch _ w0).mono ?_; rintro e w1 ⟨rfl, hb1⟩; dsimp only)
    go_ret
    exact ⟨rfl, hb1⟩
  | false =>
    rw [hH] at ch
    obtain ⟨hs1, hs2⟩ := heavy_small hH
    have hle := w0.1
    subst hle
    by_cases hn : 1024 < (n.length : Int)
    · go_enter Try.func3, Try.ntmps3
      go_wp2_with (go_at_call 7; refine (ch _ w0).mono ?_; rintro e w1 ⟨rfl, hb1⟩; dsimp only)
      go_ret
      exact ⟨rfl, hb1⟩
    · have td : decide (1024 < (n.length : Int)) = false := by simpa using hn
      have HS2 := Lib.hid hs2
      clear hH hs2 hn
      go_enter Try.func3, Try.ntmps3
      go_wp2_with (first | (go_at_call 7; go_loud (refine (ch _ w0).mono ?_; rintro e w1 ⟨rfl, hb1⟩; have hsz1 := hb1.size; have h0 := made_lab w1 w.heap.size hsz1; have hb2 := hb1.alloc hsz1 (.cells #[] 39); have H0 := Lib.hid h0; clear h0; dsimp only)) | (at_builtin; refine app_labs rfl (.tmp 15) (.tmp 16) rfl w.heap.size _ 0 0 [] rfl H0.out a0 z0.length cap0 z0 rfl (w0.below hb2) z0.length z0 (Nat.zero_add _) rfl (by omega) hb2.size ?hA1))
      case hA1 =>
        intro A2 cap2 w3 hown hg
        have hlow := ownLow H0.out
        have hb3 : Below w.heap.size w w3 := hb2.grown hg hb2.size hlow
        have hs9 : ∀ x ∈ z0, x.1.length ≤ 9223372036854775807 ∧ x.2.length ≤ 9223372036854775807 := fun x hx => by have := HS2.out x hx; omega
        have L3 := own_lat (v := .slice none 0 0) hown rfl hs9
        have cs := sort_c a0 z0.length cap0 z0 w3 (by omega) (w0.below hb3) HS2.out
        have LL := Lib.hid (And.intro L3 (w0.below hb3))
        have CS := Lib.hid cs
        clear hown hg hlow H0 L3 cs hs9
        go_wp2_with (go_at_call 8; refine CS.out.mono ?_; rintro e w4 ⟨⟨A4, cap4, rfl, L4⟩, hb4⟩; have hb34 := below2 hb3 hb4 hb3.size; have LL4 := Lib.hid L4; clear L4 CS; dsimp only)
        have cr := refSort_c a0 z0.length cap0 z0 w4 (by omega) (w0.below hb34) HS2.out
        refine cr.mono ?_
        rintro e w5 ⟨⟨A5, cap5, rfl, L5⟩, hb5⟩
        have hb35 := below2 hb34 hb5 hb34.size
        clear cr
        have hls := sortL_length z0
        have C6 := refSame_c A4 A5 z0.length z0.length cap4 cap5 (sortL z0) (sortL z0) w5 (by omega) (by omega) (LL4.out.below hb5) L5
        rw [decide_eq_true rfl] at C6
        have C6 := Lib.hid C6
        clear L5
        go_wp2_with fail
        refine C6.out.mono ?_
        rintro e w6 ⟨rfl, hb6⟩
        have hb36 := below2 hb35 hb6 hb35.size
        clear C6
        have C7 := refSame_c a0 A2 z0.length z0.length cap0 cap2 z0 z0 w6 (by omega) (by omega) (w0.below hb36) (((LL.out.1.below hb4).below hb5).below hb6)
        rw [decide_eq_true rfl] at C7
        have C7 := Lib.hid C7
        go_wp2_with fail
        refine C7.out.mono ?_
        rintro e w7 ⟨rfl, hb7⟩
        have hb37 := below2 hb36 hb7 hb36.size
        clear C7
        have C8 := Lib.hid (get_c a0 z0.length cap0 z0 n w7 (by omega) (w0.below hb37) HS2.out)
        go_wp2_with fail
        refine C8.out.mono ?_
        rintro e w8 ⟨rfl, hb8⟩
        have hb38 := below2 hb37 hb8 hb37.size
        clear C8
        have C9 := Lib.hid (refGet_c a0 z0.length cap0 z0 n w8 (by omega) (w0.below hb38) HS2.out)
        have hgs := getL_stb (sortL_stb z0) n
        have hzs : ∀ x ∈ sortL z0, x.1.length ≤ 4096 ∧ x.2.length ≤ 4096 := fun x hx => HS2.out x ((sortL_stb z0).mem hx)
        have C10 := get_c A4 z0.length cap4 (sortL z0) n w8 (by omega) ((((LL4.out.below hb5).below hb6).below hb7).below hb8) hzs
        rw [hgs] at C10
        have C10 := Lib.hid C10
        obtain ⟨G, hG⟩ : ∃ G, getL z0 n = G := ⟨_, rfl⟩
        rw [hG] at C9 C10
        have tg : (G == G) = true := by simp
        go_wp2_with (go_at_call 12; refine C9.out.mono ?_; rintro e w9 ⟨rfl, rfl⟩; dsimp only)
        refine C10.out.mono ?_
        rintro e w9 ⟨rfl, hb9⟩
        have hb39 := below2 hb38 hb9 hb38.size
        have C11 := get_c a0 z0.length cap0 z0 n w9 (by omega) (w0.below hb39) HS2.out
        rw [hG] at C11
        have C11 := Lib.hid C11
        go_wp2_with fail
        refine C11.out.mono ?_
        rintro e w10 ⟨rfl, hb10⟩
        have hb310 := below2 hb39 hb10 hb39.size
        have C12 := name_c [97] w10 (by simp)
        rw [show nameL [97] = true by decide] at C12
        have C12 := Lib.hid C12
        go_wp2_with fail
        refine C12.out.mono ?_
        rintro e w11 ⟨rfl, hb11⟩
        have hb311 := below2 hb310 hb11 hb310.size
        go_wp2_with fail
        go_ret
        exact ⟨rfl, hb311⟩
end Go.Proofs.Ytopnnhjfcfhihaa
