/-
  Layer 3 (delta): the iterator of Decode's numbers.
-/
import Derived.Test.YteaelcimlmckjaaDeltaIter
import Derived.Test.YteaelcimlmckjaaDeltaGuess
import Derived.Test.YteaelcimlmckjaaRiceRd
namespace Go.Proofs.Yteaelcimlmckjaa
open Go.RowKit Go.Deep
attribute [local go_sem] Oper.semAt_some
attribute [local go_sem] str_size str_append str_toList str_get str_extract
set_option linter.unusedVariables false
set_option linter.unusedSimpArgs false

theorem told_c (s : List UInt8) (m : Int) (w : World) : Calls Try.prog 49 #[.string (str s), .int .i64 m] w fun e w' =>
    e = .returned (.func (.func 58) #[] #[.pointer (some ⟨w.heap.size, 0, none⟩), .pointer (some ⟨w.heap.size + 1, 0, none⟩)]) ∧ w' = (w.alloc (.cells #[.string (str s)] 9)).alloc (.cells #[.int .i64 m] 3) := by
  go_enter Try.func49, Try.ntmps49
  go_wp2_with fail
  go_ret
  exact ⟨rfl, rfl⟩
/-- A reader's own block. -/
def isReader : Obj → Bool
  | .cells _ t _ => t == 94
  | _ => false
theorem decN_le (l : List Bool) (k : Int) : decN l k ≤ l.length := by
  unfold decN
  by_cases h : decE l k = 0
  · rw [if_pos h]
    unfold decE at h
    by_cases h1 : k < 0 ∨ 40 < k
    · rw [if_pos h1] at h; cases h
    · rw [if_neg h1] at h
      by_cases h2 : leadB l = 24
      · rw [if_pos h2] at h ⊢
        by_cases h3 : l.length < 88
        · rw [if_pos h3] at h; cases h
        · omega
      · rw [if_neg h2] at h ⊢
        by_cases h3 : l.length < leadB l + 1 + k.toNat
        · rw [if_pos h3] at h; cases h
        · omega
  · rw [if_neg h]; omega
theorem decV_lt (l : List Bool) (k : Int) : decV l k < 18446744073709551616 := by
  unfold decV
  by_cases h : decE l k = 0
  · rw [if_pos h]
    have hk : ¬ (k < 0 ∨ 40 < k) := fun h1 => by unfold decE at h; rw [if_pos h1] at h; cases h
    have hle := (leadB_le l).1
    by_cases h2 : leadB l = 24
    · rw [if_pos h2]
      have h3 := num_lt ((l.drop 24).take 64)
      have h4 : ((l.drop 24).take 64).length ≤ 64 := by rw [List.length_take]; omega
      have h5 := Nat.pow_le_pow_right (n := 2) (by omega) h4
      omega
    · rw [if_neg h2]
      have h3 := num_lt ((l.drop (leadB l + 1)).take k.toNat)
      have h4 : ((l.drop (leadB l + 1)).take k.toNat).length ≤ k.toNat := by rw [List.length_take]; omega
      have h5 := Nat.pow_le_pow_right (n := 2) (by omega) h4
      have h6 : (2 : Nat) ^ k.toNat ≤ 2 ^ 40 := Nat.pow_le_pow_right (by omega) (by omega)
      have h7 : leadB l * 2 ^ k.toNat ≤ 23 * 2 ^ 40 := Nat.mul_le_mul (by omega) h6
      omega
  · rw [if_neg h]; omega
set_option maxRecDepth 100000 in
set_option maxHeartbeats 2000000 in
theorem told1_tells (n n₀ bs bc : Nat) (hn1 : 1 ≤ n) (F : List Nat) (s : List UInt8) (m : Nat) (w : World) (hs : s.length ≤ 281474976710656) (hm : m ≤ 5000)
    (hbs : Boxed w bs 9 (.string (str s))) (hbc : Boxed w bc 3 (.int .i64 (m : Int))) (hbF : bs ∉ F) (hF : ∀ f, f ∈ F → f < w.heap.size) (hn : n₀ ≤ w.heap.size) :
    Tells Fence.wide n Try.prog 58 #[.pointer (some ⟨bs, 0, none⟩), .pointer (some ⟨bc, 0, none⟩)] encP isReader (Spared n₀ F 34) (toldS s m) w := by
  intro l J W hW hJ hY h0
  have hWs := box_below hbs hW (Nat.le_refl _)
  have hWc := box_below hbc hW (Nat.le_refl _)
  have hsz := hW.size
  have c1 := hWs.cell
  have c2 := hWc.cell
  refine callsIn_of_wp Try.func58 rfl trivial ?_ rfl
  simp only [Try.ntmps58, List.size_toArray, List.length_cons, List.length_nil, Nat.reduceAdd, Nat.reduceSub, Array.replicate_succ, Array.replicate_zero, List.push_toArray, List.append_toArray, List.nil_append, List.cons_append]
  by_cases h2 : s.length < 2
  · have hd : decide ((s.length : Int) < 2) = true := by simp; omega
    have ht : toldS s m = [] := by unfold toldS; rw [if_pos h2]
    rw [ht]
    clear h2 ht
    gi_wp2_with fail
    refine bodyPost_ret (results_none rfl _ _ _) rfl ?_
    exact ⟨⟨_, rfl⟩, h0⟩
  · have hd : decide ((s.length : Int) < 2) = false := by simp; omega
    have hi2 : (2 : Int) ≤ (s.length : Int) := by omega
    have ht : toldS s m = toldL (s.getD 0 0).toNat (s.getD 1 0).toNat m (bitsOf (s.drop 2)) := by unfold toldS; rw [if_neg h2]
    rw [ht] at hY ⊢
    have htk : List.take (s.length - 2) (List.drop 2 s) = s.drop 2 := List.take_of_length_le (by simp)
    have hl0 : 0 < s.length := by omega
    have hl1 : 1 < s.length := by omega
    have g0 : s.getD 0 0 = s[0] := by simp [List.getD_eq_getElem?_getD, hl0]
    have g1 : s.getD 1 0 = s[1] := by simp [List.getD_eq_getElem?_getD, hl1]
    rw [g0, g1] at hY ⊢
    obtain ⟨b0, hb0⟩ : ∃ x, s[0] = x := ⟨_, rfl⟩
    obtain ⟨b1, hb1⟩ : ∃ x, s[1] = x := ⟨_, rfl⟩
    rw [hb0, hb1] at hY ⊢
    obtain ⟨r, hr⟩ : ∃ r, s.drop 2 = r := ⟨_, rfl⟩
    have hrl : r.length ≤ 281474976710656 := by rw [← hr, List.length_drop]; omega
    rw [hr] at htk hY ⊢
    obtain ⟨XS, hXS⟩ : ∃ XS, toldL b0.toNat b1.toNat m (bitsOf r) = XS := ⟨_, rfl⟩
    rw [hXS] at hY ⊢
    have HXS := Lib.hid hXS
    have HY := Lib.hid hY
    clear hXS
    have HB := Lib.hid (And.intro hWs hWc)
    clear ht h2 g0 g1 hY
    gi_wp2_with fail
    refine ⟨trivial, (callsIn_wide.2 (read_c r _ hrl)).mono ?_⟩
    rintro e W1 ⟨p, rfl, hR, hp, hK1⟩
    have hs1 := box_keeps HB.out.1 hK1 (by simp)
    have hc1 := box_keeps HB.out.2 hK1 (by simp)
    have c3 := hs1.cell
    have c4 := hc1.cell
    have j1 := hJ _ _ _ [] h0 hK1 (by simp)
    have HI := Lib.hid (And.intro hs1 (And.intro hR (And.intro j1 hK1.size)))
    clear hs1 hc1 hR j1 c1 c2 htk hr hK1
    gi_wp2_with fail
    gi_loopw [15] (fun c wr => ∃ (k pos : Nat) (pre : List (Nat × Nat)), k ≤ m ∧ c = .int .i64 k ∧ pos ≤ 8 * r.length ∧ Boxed wr bs 9 (.string (str s)) ∧ IsR 94 p r pos wr ∧ J pre wr ∧ W.heap.size ≤ wr.heap.size ∧ Hid (XS = pre ++ toldL b0.toNat b1.toNat (m - k) (rest r pos))) (fun c _ => m - (intOf c).toNat)
    case atStart => exact ⟨0, 0, [], Nat.zero_le _, rfl, Nat.zero_le _, HI.out.1, HI.out.2.1, HI.out.2.2.1, HI.out.2.2.2, by show _ = _; rw [← HXS.out]; simp [rest]⟩
    case round =>
      obtain ⟨k, pos, pre, hk, rfl, hpos, hbx, hR, hj, hsz2, hL⟩ := hrel
      have c5 := hbx.cell
      by_cases hlt : k < m
      · obtain ⟨q, hq⟩ : ∃ q, m - k = q + 1 := ⟨m - k - 1, by omega⟩
        have hw0 : wrap64 (b0.toNat : Int) = (b0.toNat : Int) := wrap64_id _ (by omega) (by have := b0.toNat_lt; omega)
        have hw1 : wrap64 (b1.toNat : Int) = (b1.toNat : Int) := wrap64_id _ (by omega) (by have := b1.toNat_lt; omega)
        have own : ∀ (a : Nat) (Wx Wy : World), IsR 94 p r a Wx → Keeps [p] Wx Wy → ∀ ps, J ps Wx → J ps Wy := fun a Wx Wy h1 h2 ps h3 => hJ _ _ _ [p] h3 h2 (fun k hk => by
          obtain rfl : k = p := by simpa using hk
          exact ⟨hp, _, h1, rfl⟩)
        have hnb : bs ∉ [p] := by simp; have := HB.out.1.lt; omega
        have R1 := rdRice_c p r pos (b0.toNat : Int) wr hrl hpos hR
        have hn1' := decN_le (rest r pos) (b0.toNat : Int)
        rw [rest_length] at hn1'
        have hx := decV_lt (rest r pos) (b0.toNat : Int)
        have hL := hL.out
        rw [hq] at hL
        unfold toldL at hL
        rw [rest_drop] at hL
        obtain ⟨x, hxx⟩ : ∃ x, decV (rest r pos) (b0.toNat : Int) = x := ⟨_, rfl⟩
        obtain ⟨er, her⟩ : ∃ x, decE (rest r pos) (b0.toNat : Int) = x := ⟨_, rfl⟩
        obtain ⟨d, hd1⟩ : ∃ x, decN (rest r pos) (b0.toNat : Int) = x := ⟨_, rfl⟩
        rw [hxx, her, hd1] at hL
        rw [hxx, her, hd1] at R1
        rw [hd1] at hn1'
        rw [hxx] at hx
        have R1 := Lib.hid R1
        have HL := Lib.hid hL
        have HO := Lib.hid own
        clear hL own hxx her hd1
        by_cases hE : er = 0
        · have hEb : (er == 0) = true := by simp [hE]
          have HE := Lib.hid hE
          clear hE
          gi_wp2_with fail
          refine ⟨trivial, (callsIn_wide.2 R1.out).mono ?_⟩
          rintro e W1 ⟨rfl, hR1, hK1⟩
          have hj1 := HO.out _ _ _ hR hK1 _ hj
          have hbx1 := box_keeps hbx hK1 hnb
          have hs1 := hK1.size
          have c6 := hbx1.cell
          have hpos1 : pos + d ≤ 8 * r.length := by omega
          have R2 := rdRice_c p r (pos + d) (b1.toNat : Int) W1 hrl hpos1 hR1
          have hn2' := decN_le (rest r (pos + d)) (b1.toNat : Int)
          rw [rest_length] at hn2'
          have hy := decV_lt (rest r (pos + d)) (b1.toNat : Int)
          have hL := HL.out
          rw [HE.out, if_neg (by simp)] at hL
          rw [rest_drop] at hL
          obtain ⟨y, hyy⟩ : ∃ x, decV (rest r (pos + d)) (b1.toNat : Int) = x := ⟨_, rfl⟩
          obtain ⟨es, hes⟩ : ∃ x, decE (rest r (pos + d)) (b1.toNat : Int) = x := ⟨_, rfl⟩
          obtain ⟨d2, hd2⟩ : ∃ x, decN (rest r (pos + d)) (b1.toNat : Int) = x := ⟨_, rfl⟩
          rw [hyy, hes, hd2] at hL
          rw [hyy, hes, hd2] at R2
          rw [hd2] at hn2'
          rw [hyy] at hy
          have R2 := Lib.hid R2
          have HL2 := Lib.hid hL
          have H1 := Lib.hid (And.intro hR1 (And.intro hj1 hbx1))
          clear hL hyy hes hd2 hR1 hj1 hbx1 hR hj hbx hK1
          by_cases hS : es = 0
          · have hSb : (es == 0) = true := by simp [hS]
            have HS := Lib.hid hS
            clear hS
            gi_wp2_with fail
            refine ⟨trivial, (callsIn_wide.2 R2.out).mono ?_⟩
            rintro e W2 ⟨rfl, hR2, hK2⟩
            have hj2 := HO.out _ _ _ H1.out.1 hK2 _ H1.out.2.1
            have hbx2 := box_keeps H1.out.2.2 hK2 hnb
            have hs2 := hK2.size
            have hL := HL2.out
            rw [HS.out, if_neg (by simp)] at hL
            obtain ⟨fn, tmps, assign, body, hy, hRd⟩ := HY.out pre (x, y) _ W2 hj2 hL
            dsimp only [encP] at hy
            have H2 := Lib.hid (And.intro hR2 (And.intro hbx2 hL))
            have hpF : p ∉ F := fun h => by have := hF p h; omega
            clear hR2 hj2 hbx2 hL R1 R2 hK2 hF
            gi_wp2_with fail
            refine hRd.mono ?_
            rintro e W3 ⟨rfl, hJ3, hk3⟩
            have hbx3 : Boxed W3 bs 9 (.string (str s)) := hk3.2 _ _ _ _ H2.out.2.1 (by decide) hbF
            have hR3 : IsR 94 p r (pos + (d + d2)) W3 := by
              have h := H2.out.1
              rw [Nat.add_assoc] at h
              exact hk3.2 _ _ _ _ h (by decide) hpF
            have hs3 := hk3.1.size
            clear hk3
            gi_wp2_with fail
            go_roundw
            case rel =>
              refine ⟨k + 1, pos + (d + d2), pre ++ [(x, y)], by omega, by go_num, by omega, hbx3, hR3, hJ3, by omega, ?_⟩
              show _ = _
              rw [H2.out.2.2, show m - (k + 1) = q by omega]
              simp
            case measure => simp [intOf]; omega
          · have hSb : (es == 0) = false := by simp [hS]
            have HS := Lib.hid hS
            clear hS
            gi_wp2_with fail
            refine ⟨trivial, (callsIn_wide.2 R2.out).mono ?_⟩
            rintro e W2 ⟨rfl, hR2, hK2⟩
            gi_wp2_with fail
            refine bodyPost_ret (results_none rfl _ _ _) rfl ?_
            refine ⟨⟨_, rfl⟩, ?_⟩
            have h := HL2.out
            rw [if_pos HS.out, List.append_nil] at h
            rw [h]
            exact HO.out _ _ _ H1.out.1 hK2 _ H1.out.2.1
        · have hEb : (er == 0) = false := by simp [hE]
          have HE := Lib.hid hE
          clear hE
          gi_wp2_with fail
          refine ⟨trivial, (callsIn_wide.2 R1.out).mono ?_⟩
          rintro e W1 ⟨rfl, hR1, hK1⟩
          gi_wp2_with fail
          refine bodyPost_ret (results_none rfl _ _ _) rfl ?_
          refine ⟨⟨_, rfl⟩, ?_⟩
          have h := HL.out
          rw [if_pos HE.out, List.append_nil] at h
          rw [h]
          exact HO.out _ _ _ hR hK1 _ hj
      · obtain rfl : k = m := by omega
        gi_wp2_with fail
        go_end0
        refine ⟨⟨_, rfl⟩, ?_⟩
        rw [hL.out]
        simpa [toldL] using hj
end Go.Proofs.Yteaelcimlmckjaa
