/-
  Layer 3 (delta): the document's own Decode: bytes to samples.
-/
import Derived.Test.YteaelcimlmckjaaDeltaRef
import Derived.Test.YteaelcimlmckjaaDeltaDec
import Derived.Test.YteaelcimlmckjaaRiceRefR
namespace Go.Proofs.Yteaelcimlmckjaa
open Go.RowKit Go.Deep
attribute [local go_sem] str_size str_append str_toList str_get str_extract
set_option linter.unusedVariables false
set_option linter.unusedSimpArgs false

/-- What read answers. -/
def ReadD : Option (List Smp) → Ending → World → Prop
  | none, e, _ => e = .returned (.tuple #[.slice none 0 0, .bool false])
  | some l, e, w' => ∃ A cap, e = .returned (.tuple #[.slice A l.length cap, .bool true]) ∧ SAt w' A l.length l ∧ l.length ≤ 5000
def sliceLen : Value → Nat
  | .slice _ n _ => n
  | _ => 0
/-- Samples of 64 bits. -/
def in64 (l : List Smp) : Prop := ∀ s, s ∈ l → -9223372036854775808 ≤ s.1 ∧ s.1 ≤ 9223372036854775807 ∧ -9223372036854775808 ≤ s.2 ∧ s.2 ≤ 9223372036854775807
theorem getI_to {s : List UInt8} {a v nx er : Int} (h : getI s a = (v, nx, er)) : 0 ≤ nx ∧ nx ≤ s.length ∧ -9223372036854775808 ≤ v ∧ v ≤ 9223372036854775807 := by
  have hv := getI_vals h
  obtain ⟨u', n', e', hu⟩ : ∃ u n e, getU s a = (u, n, e) := ⟨_, _, _, rfl⟩
  have hr := getU_range hu
  unfold getI at h
  rw [hu] at h
  simp only at h
  split at h
  · injection h with _ h4
    injection h4 with h4 _
    omega
  · injection h with _ h4
    injection h4 with h4 _
    omega
set_option maxRecDepth 100000 in
set_option maxHeartbeats 2000000 in
theorem refRead2_c (s : List UInt8) (w : World) (hs : s.length ≤ 281474976710656) :
    Calls Try.prog 25 #[.string (str s)] w fun e w' => ReadD (readD s) e w' ∧ Below w.heap.size w w' := by
  obtain ⟨i0, hi0, hz0, hz1, hz2⟩ := info_parts smp_info
  obtain ⟨n, a1, e1, h1⟩ : ∃ n a e, getU s 0 = (n, a, e) := ⟨_, _, _, rfl⟩
  obtain ⟨t, a2, e2, h2⟩ : ∃ n a e, getU s a1 = (n, a, e) := ⟨_, _, _, rfl⟩
  obtain ⟨v, a3, e3, h3⟩ : ∃ n a e, getI s a2 = (n, a, e) := ⟨_, _, _, rfl⟩
  obtain ⟨G, hG⟩ : ∃ G, readD s = G := ⟨_, rfl⟩
  rw [hG]
  unfold readD at hG
  simp only [h1, h2, h3] at hG
  have HG := Lib.hid hG
  have r1 := getU_range h1
  have r2 := getU_range h2
  have r3 := getI_to h3
  have c1 := refGetUint_c s 0 n a1 e1 w (by omega) (by omega) (by omega) h1
  have c2 := fun W => refGetUint_c s a1 t a2 e2 W (by omega) (by omega) (by omega) h2
  have c3 := fun W => refGetInt_c s a2 v a3 e3 W (by omega) (by omega) (by omega) h3
  have C1 := Lib.hid c1
  have C2 := Lib.hid c2
  have C3 := Lib.hid c3
  have R1 := Lib.hid r1
  have R2 := Lib.hid r2
  have R3 := Lib.hid r3
  clear hG h1 h2 h3 c1 c2 c3 r1 r2 r3
  by_cases x1 : e1 ≠ 0 ∨ 5000 < n
  · have hg := HG.out
    rw [if_pos x1] at hg
    have HX := Lib.hid hg
    have b1 : ((e1 != 0) = true) ∨ ((e1 != 0) = false ∧ decide (5000 < n) = true) := by
      by_cases h : e1 = 0
      · right; refine ⟨by simp [h], ?_⟩; rcases x1 with h' | h'
        · exact absurd h h'
        · simpa using h'
      · left; simp [h]
    clear x1 hg
    rcases b1 with b1 | ⟨b1, b2⟩
    · go_enter Try.func25, Try.ntmps25
      go_wp2_with fail
      refine C1.out.mono ?_
      rintro e w1 ⟨rfl, hb1⟩
      go_wp2_with fail
      go_ret2
      exact ⟨by rw [← HX.out]; rfl, hb1⟩
    · go_enter Try.func25, Try.ntmps25
      go_wp2_with fail
      refine C1.out.mono ?_
      rintro e w1 ⟨rfl, hb1⟩
      go_wp2_with fail
      go_ret2
      exact ⟨by rw [← HX.out]; rfl, hb1⟩
  have b1 : (e1 != 0) = false := by simp; omega
  have b2 : decide (5000 < n) = false := by simp; omega
  by_cases x2 : n = 0
  · have b3 : (n == 0) = true := by simp [x2]
    have hg := HG.out
    rw [if_neg x1, if_pos x2] at hg
    have HX := Lib.hid hg
    clear x1 x2 hg
    go_enter Try.func25, Try.ntmps25
    go_wp2_with fail
    refine C1.out.mono ?_
    rintro e w1 ⟨rfl, hb1⟩
    go_wp2_with fail
    go_ret2
    refine ⟨?_, hb1.alloc hb1.size _⟩
    rw [← HX.out]
    exact ⟨_, 0, rfl, SAt.nil _ _, by simp⟩
  have b3 : (n == 0) = false := by simp [x2]
  have hn1 : 1 ≤ n ∧ n ≤ 5000 := by have := R1.out; omega
  go_enter Try.func25, Try.ntmps25
  by_cases x3 : e2 ≠ 0 ∨ e3 ≠ 0 ∨ 1099511627776 ≤ t
  · have hg := HG.out
    rw [if_neg x1, if_neg x2, if_pos x3] at hg
    have HX := Lib.hid hg
    have b4 : ((e2 != 0) = true) ∨ ((e2 != 0) = false ∧ (e3 != 0) = true) ∨ ((e2 != 0) = false ∧ (e3 != 0) = false ∧ decide (1099511627776 ≤ t) = true) := by
      by_cases h : e2 = 0
      · by_cases h' : e3 = 0
        · right; right; refine ⟨by simp [h], by simp [h'], ?_⟩
          simp; omega
        · right; left; exact ⟨by simp [h], by simp [h']⟩
      · left; simp [h]
    clear x1 x2 x3 hg
    go_wp2_with fail
    refine C1.out.mono ?_
    rintro e w1 ⟨rfl, hb1⟩
    go_wp2_with fail
    refine (C2.out _).mono ?_
    rintro e w2 ⟨rfl, hb2⟩
    go_wp2_with fail
    refine (C3.out _).mono ?_
    rintro e w3 ⟨rfl, hb3⟩
    have hs1 := hb1.size
    have hB := below2 (below2 (hb1.alloc hs1 (.cells #[] 34)) hb2 (by simp; omega)) hb3 (Nat.le_trans (by simp; omega) hb2.size)
    rcases b4 with b4 | ⟨b4, b5⟩ | ⟨b4, b5, b6⟩
    · go_wp2_with fail
      go_ret2
      exact ⟨by rw [← HX.out]; rfl, hB⟩
    · go_wp2_with fail
      go_ret2
      exact ⟨by rw [← HX.out]; rfl, hB⟩
    · go_wp2_with fail
      go_ret2
      exact ⟨by rw [← HX.out]; rfl, hB⟩
  have b4 : (e2 != 0) = false := by simp; omega
  have b5 : (e3 != 0) = false := by simp; omega
  have b6 : decide (1099511627776 ≤ t) = false := by simp; omega
  have ht : 0 ≤ t ∧ t < 1099511627776 := by have := R2.out; omega
  have wt : IntKind.i64.wrap t = t := IntWalk.i64_in _ (by omega)
  obtain ⟨q, hq⟩ : ∃ q : Nat, a3 = (q : Int) := ⟨a3.toNat, by have := R3.out; omega⟩
  subst hq
  have hq1 : q ≤ s.length := by have := R3.out; omega
  have hg := HG.out
  rw [if_neg x1, if_neg x2, if_neg x3] at hg
  clear x1 x2 x3 HG
  go_wp2_with fail
  refine C1.out.mono ?_
  rintro e w1 ⟨rfl, hb1⟩
  go_wp2_with fail
  refine (C2.out _).mono ?_
  rintro e w2 ⟨rfl, hb2⟩
  go_wp2_with fail
  refine (C3.out _).mono ?_
  rintro e w3 ⟨rfl, hb3⟩
  have hs1 := hb1.size
  have hB1 := hb1.alloc hs1 (.cells #[] 34)
  have hB := below2 (below2 hB1 hb2 hB1.size) hb3 (below2 hB1 hb2 hB1.size).size
  have hrow0 : (w1.alloc (.cells #[] 34)).ownsRow w.heap.size 34 2 (.slice (some ⟨w1.heap.size, 0, none⟩) 0 0) 0 [] := World.ownsRow_made w1 #[] 0 hs1 (by unfold maxLen; omega) rfl
  have hrow := (Keeps.below (F := []) (below2 hb2 hb3 hb2.size)).row hrow0 (fun k _ h => by simp at h)
  have hbs := hB.size
  have HR := Lib.hid hrow
  have hlm : 0 + 1 ≤ maxLen := by unfold maxLen; omega
  clear hrow hrow0 hB1 hb1 hb2 hb3 C1 C2 C3
  go_wp2_with (at_builtin; refine wpList_append_own_at _ rfl (.tmp 62) (.tmp 67) 22 rfl w.heap.size 34 i0 (.agg #[.int .i64 0, .int .i64 0]) 2 16 Try.underlying22 hi0 hz0 hz1 hz2 rfl (by decide) (.slice (some ⟨w1.heap.size, 0, none⟩) 0 0) 0 _ rfl (HR.out.alloc _) ⟨w3.heap.size, 0, none⟩ 1 1 [.int .i64 t, .int .i64 v] rfl rfl (cell_two_new _ _ _ _) ?s0 hlm ?s2 ?s3 ?c1)
  case s0 => intro u hu; simp at hu; rcases hu with rfl | rfl <;> rfl
  case s2 => omega
  case s3 => simp; omega
  case c1 =>
    intro v' w4 hown hg4 hnn hat
    obtain ⟨A, cap, rfl⟩ := row_slice hown
    have hB4 : Below w.heap.size w w4 := (hB.alloc hbs _).grown hg4 (by simp; omega) (fun k hk => (HR.out.lt k hk).1)
    have hown : w4.ownsRow w.heap.size 34 2 (.slice A 1 cap) 1 (smpC [(t, v)]) := hown
    have HO := Lib.hid hown
    have HGG := Lib.hid hg
    clear hown hg4 hnn hat hB hbs HR hg
    by_cases y1 : n = 1
    · have d1 : (n == 1) = true := by simp [y1]
      have hg := HGG.out
      rw [if_pos y1] at hg
      have HX := Lib.hid hg
      clear y1 hg
      go_wp2_with fail
      go_ret2
      refine ⟨?_, hB4⟩
      rw [← HX.out]
      exact ⟨A, cap, rfl, sAt_row HO.out rfl (fun s hs => by
        simp at hs; subst hs; exact ⟨by show _ ≤ t; omega, by show t ≤ _; omega, R3.out.2.2.1, R3.out.2.2.2⟩), by simp⟩
    have d1 : (n == 1) = false := by simp [y1]
    have wq : IntKind.i64.wrap ((q : Int) + 2) = (q : Int) + 2 := IntWalk.i64_in _ (by omega)
    by_cases y2 : (s.length : Int) < (q : Int) + 2
    · have d2 : decide ((s.length : Int) < (q : Int) + 2) = true := by simpa using y2
      have hg := HGG.out
      rw [if_neg y1, if_pos y2] at hg
      have HX := Lib.hid hg
      clear y1 y2 hg
      go_wp2_with fail
      go_ret2
      exact ⟨by rw [← HX.out]; rfl, hB4⟩
    have d2 : decide ((s.length : Int) < (q : Int) + 2) = false := by simp; omega
    have hg := HGG.out
    rw [if_neg y1, if_neg y2] at hg
    have hq2 : q + 2 ≤ s.length := by omega
    have hqa : q < s.length := by omega
    have hqb : q + 1 < s.length := by omega
    have g0 : s.getD q 0 = s[q] := by simp [List.getD_eq_getElem?_getD, hqa]
    have g1 : s.getD (q + 1) 0 = s[q + 1] := by simp [List.getD_eq_getElem?_getD, hqb]
    rw [Int.toNat_natCast, g0, g1] at hg
    have htk : List.take (s.length - (q + 2)) (List.drop (q + 2) s) = s.drop (q + 2) := List.take_of_length_le (by simp)
    have hdl : (s.drop (q + 2)).length ≤ 281474976710656 := by rw [List.length_drop]; omega
    clear y1 y2 HGG
    obtain ⟨b0, hb0⟩ : ∃ x, s[q] = x := ⟨_, rfl⟩
    obtain ⟨b1', hb1'⟩ : ∃ x, s[q + 1] = x := ⟨_, rfl⟩
    rw [hb0, hb1'] at hg
    obtain ⟨r, hr⟩ : ∃ r, s.drop (q + 2) = r := ⟨_, rfl⟩
    obtain ⟨N, rfl⟩ : ∃ N : Nat, n = (N : Int) := ⟨n.toNat, by omega⟩
    rw [hr] at hg htk hdl
    rw [Int.toNat_natCast] at hg
    have HRR := Lib.hid (refRead_c r w4)
    have HGG := Lib.hid hg
    have hqi : (0 : Int) ≤ (q : Int) := by omega
    have hqj : (q : Int) < (s.length : Int) := by omega
    have hqk : (q : Int) + 1 < (s.length : Int) := by omega
    have hql : ((q : Int) + 1).toNat = q + 1 := by omega
    have wq1 : IntKind.i64.wrap ((q : Int) + 1) = (q : Int) + 1 := IntWalk.i64_in _ (by omega)
    have hw0 : wrap64 (b0.toNat : Int) = (b0.toNat : Int) := wrap64_id _ (by omega) (by have := b0.toNat_lt; omega)
    have hw1 : wrap64 (b1'.toNat : Int) = (b1'.toNat : Int) := wrap64_id _ (by omega) (by have := b1'.toNat_lt; omega)
    clear g0 g1 hg
    go_wp2_with fail
    refine HRR.out.mono ?_
    rintro e w5 ⟨rfl, rfl⟩
    have hR0 := IsR.new w4 82 r 0
    have hrw0 := HO.out.alloc (.cells #[.string (str r), .int .i64 ((0 : Nat) : Int)] 82)
    have hB5 := hB4.alloc hB4.size (.cells #[.string (str r), .int .i64 ((0 : Nat) : Int)] 82)
    have hp4 := hB4.size
    obtain ⟨p, hp⟩ : ∃ p, w4.heap.size = p := ⟨_, rfl⟩
    rw [hp] at hR0 hp4 ⊢
    generalize w4.alloc (.cells #[.string (str r), .int .i64 ((0 : Nat) : Int)] 82) = W5 at *
    have HI := Lib.hid (And.intro hR0 (And.intro hrw0 hB5))
    clear hR0 hrw0 hB5 HRR hB4 HO hp hr htk
    go_wp2_with fail
    go_loopw [7, 15] (fun lv dv wr => ∃ (pre : List Smp) (pt pv pd : Int) (pos m : Nat) (A : Option Addr) (cap : Nat), lv = .slice A (pre.length + 1) cap ∧ dv = .int .i64 pd ∧ wr.ownsRow w.heap.size 34 2 (.slice A (pre.length + 1) cap) (pre.length + 1) (smpC (pre ++ [(pt, pv)])) ∧
      IsR 82 p r pos wr ∧ pos ≤ 8 * r.length ∧ pre.length + 1 + m = N ∧ Hid (G = (stepsD b0.toNat b1'.toNat pt pv pd (rest r pos) m).map (fun z => pre ++ (pt, pv) :: z)) ∧ (0 ≤ pt ∧ pt < 1099511627776) ∧ (-9223372036854775808 ≤ pv ∧ pv ≤ 9223372036854775807) ∧ (0 ≤ pd ∧ pd ≤ 1099511627776) ∧ in64 pre ∧ Below w.heap.size w wr) (fun lv _ _ => N - sliceLen lv)
    case atStart =>
      refine ⟨[], t, v, 0, 0, N - 1, A, cap, rfl, rfl, HI.out.2.1, HI.out.1, Nat.zero_le _, by simp; omega, ?_, ht, R3.out.2.2, by omega, fun s hs => by simp at hs, HI.out.2.2⟩
      show _ = _
      rw [← HGG.out]
      simp [rest]
    case round =>
      obtain ⟨pre, pt, pv, pd, pos, m, A, cap, rfl, rfl, hrow, hR, hpos, hlen, hG, hpt, hpv, hpd, hin, hb⟩ := hrel
      have hbs := hb.size
      have wl : IntKind.u64.wrap ((pre.length : Int) + 1) = (pre.length : Int) + 1 := IntWalk.u64_in _ (by omega)
      have wl2 : IntKind.i64.wrap ((pre.length : Int) + 1 - 1) = (pre.length : Int) := by rw [show (pre.length : Int) + 1 - 1 = pre.length by omega]; exact IntWalk.i64_in _ (by omega)
      have in1 : in64 (pre ++ [(pt, pv)]) := fun s hs => by
        rcases List.mem_append.1 hs with h | h
        · exact hin s h
        · simp at h; subst h; exact ⟨by show _ ≤ pt; omega, by show pt ≤ _; omega, hpv.1, hpv.2⟩
      cases m with
      | zero =>
        have dd : decide ((pre.length : Int) + 1 < (N : Int)) = false := by simp; omega
        have hX : G = some (pre ++ [(pt, pv)]) := hG.out
        have HX := Lib.hid (And.intro hX in1)
        have HW := Lib.hid hrow
        have hN5 : pre.length + 1 ≤ 5000 := by omega
        clear hX hG hrow hR in1
        go_wp2_with fail
        go_ret2
        refine ⟨?_, hb⟩
        rw [HX.out.1]
        exact ⟨A, cap, by simp, by rw [List.length_append]; exact sAt_row HW.out (by simp) HX.out.2, by simp; omega⟩
      | succ m =>
        have dd : decide ((pre.length : Int) + 1 < (N : Int)) = true := by simp; omega
        have L1 := refRice_rd_c p r pos (b0.toNat : Int) wr hdl hpos hR
        have n1 := decN_le (rest r pos) (b0.toNat : Int)
        rw [rest_length] at n1
        have l1 := decV_lt (rest r pos) (b0.toNat : Int)
        have hG := hG.out
        unfold stepsD at hG
        rw [rest_drop, rest_drop] at hG
        obtain ⟨x, hx⟩ : ∃ x, decV (rest r pos) (b0.toNat : Int) = x := ⟨_, rfl⟩
        obtain ⟨er, her⟩ : ∃ x, decE (rest r pos) (b0.toNat : Int) = x := ⟨_, rfl⟩
        obtain ⟨d1', hd1'⟩ : ∃ x, decN (rest r pos) (b0.toNat : Int) = x := ⟨_, rfl⟩
        rw [hx, her, hd1'] at hG L1
        rw [hx] at l1
        rw [hd1'] at n1
        have hps : pos + d1' ≤ 8 * r.length := by omega
        have L2 := fun W (h : IsR 82 p r (pos + d1') W) => refRice_rd_c p r (pos + d1') (b1'.toNat : Int) W hdl hps h
        have n2 := decN_le (rest r (pos + d1')) (b1'.toNat : Int)
        rw [rest_length] at n2
        have l2 := decV_lt (rest r (pos + d1')) (b1'.toNat : Int)
        obtain ⟨y, hy⟩ : ∃ x, decV (rest r (pos + d1')) (b1'.toNat : Int) = x := ⟨_, rfl⟩
        obtain ⟨es, hes⟩ : ∃ x, decE (rest r (pos + d1')) (b1'.toNat : Int) = x := ⟨_, rfl⟩
        obtain ⟨d2', hd2'⟩ : ∃ x, decN (rest r (pos + d1')) (b1'.toNat : Int) = x := ⟨_, rfl⟩
        rw [hy, hes, hd2'] at hG
        simp only [hy, hes, hd2'] at L2
        rw [hy] at l2
        rw [hd2'] at n2
        have L1 := Lib.hid L1
        have L2 := Lib.hid L2
        have HG2 := Lib.hid hG
        have HW := Lib.hid (And.intro hrow in1)
        have nrp : ∀ k, (Value.slice A (pre.length + 1) cap).ownBlock = some k → k ∉ [p] := fun k hk hm => by
          simp at hm; subst hm
          obtain ⟨cs, hc⟩ := row_block hrow hk
          exact ne_type hR hc (by decide) rfl
        have NRP := Lib.hid nrp
        clear hG hx her hd1' hy hes hd2' hrow hR in1 nrp
        go_wp2_with fail
        refine L1.out.mono ?_
        rintro e wa ⟨rfl, hRa, hKa⟩
        go_wp2_with fail
        refine (L2.out _ hRa).mono ?_
        rintro e wb ⟨rfl, hRb, hKb⟩
        have hKab : Keeps [p] wr wb := hKa.trans hKb (fun g hg => .inl hg)
        have hbb : Below w.heap.size w wb := hb.trans (hKab.to hbs (fun f hf => by simp at hf; omega))
        have hrb := hKab.row HW.out.1 NRP.out
        have hbbs := hbb.size
        by_cases z1 : er ≠ 0 ∨ es ≠ 0
        · have hX := HG2.out
          rw [if_pos z1] at hX
          have HX := Lib.hid hX
          have bb : ((er != 0) = true) ∨ ((er != 0) = false ∧ (es != 0) = true) := by
            by_cases h : er = 0
            · right; exact ⟨by simp [h], by simp; rcases z1 with h' | h'; exact absurd h h'; exact h'⟩
            · left; simp [h]
          clear z1 hX hRb hRa hKa hKb hKab hrb
          rcases bb with bb | ⟨bb, bc⟩
          · go_wp2_with fail
            go_ret2
            exact ⟨by rw [HX.out]; rfl, hbb⟩
          · go_wp2_with fail
            go_ret2
            exact ⟨by rw [HX.out]; rfl, hbb⟩
        have c1 : (er != 0) = false := by simp; omega
        have c2 : (es != 0) = false := by simp; omega
        have hX := HG2.out
        rw [if_neg z1] at hX
        have hA := sAt_row hrb (by simp) HW.out.2
        obtain ⟨-, ad, rfl, a2', a3', a4'⟩ := hA.2 pre.length (by simp)
        have hlast : (pre ++ [(pt, pv)])[pre.length]'(by simp) = (pt, pv) := by simp
        rw [hlast] at a3' a4'
        simp only at a3' a4'
        obtain ⟨u1, hu1⟩ : ∃ u, unfold (x : Int) = u := ⟨_, rfl⟩
        obtain ⟨u2', hu2⟩ : ∃ u, unfold (y : Int) = u := ⟨_, rfl⟩
        have ur1 := unfold_range (x : Int) (by omega) (by omega)
        have ur2 := unfold_range (y : Int) (by omega) (by omega)
        have U1 := Lib.hid (fun W => refUnfold_c x W l1)
        have U2 := Lib.hid (fun W => refUnfold_c y W l2)
        rw [hu1] at hX ur1
        rw [hu2] at hX ur2
        have HX2 := Lib.hid hX
        have pl1 : (0 : Int) ≤ (pre.length : Int) := by omega
        have pl2 : (pre.length : Int) < (pre.length : Int) + 1 := by omega
        have hop := blk_new wb (.cells #[.int .i64 pt, .int .i64 pv] 34)
        have hbp := hbb.alloc hbbs (.cells #[.int .i64 pt, .int .i64 pv] 34)
        have hrp := hrb.alloc (.cells #[.int .i64 pt, .int .i64 pv] 34)
        have hRp := IsR.keeps hRb ((Keeps.refl [] wb).alloc (.cells #[.int .i64 pt, .int .i64 pv] 34)) (by simp)
        have hob : (Value.slice (some ad) (pre.length + 1) cap).ownBlock ≠ some wb.heap.size := fun h => by
          have := (hrb.lt _ h).2; omega
        have HP := Lib.hid (And.intro hop (And.intro hbp (And.intro hrp (And.intro hRp hob))))
        clear z1 hX hA hop hbp hrp hRp hob hRa hRb hKa hKb hKab hrb hlast
        go_wp2_with fail
        refine (U1.out _).mono ?_
        rintro e wc ⟨rfl, rfl⟩
        rw [hu1]
        obtain ⟨hop, hbp, hrp, hRp, hob⟩ := HP.out
        have hpb := hbp.size
        obtain ⟨pb, hpbe⟩ : ∃ pb, wb.heap.size = pb := ⟨_, rfl⟩
        rw [hpbe] at hop hob ⊢
        generalize wb.alloc (.cells #[.int .i64 pt, .int .i64 pv] 34) = Wp at *
        have cp0 := blk_cell hop 0
        have cp1 := blk_cell hop 1
        simp at cp0 cp1
        have HP2 := Lib.hid (And.intro hop (And.intro hbp (And.intro hrp (And.intro hRp hob))))
        clear hop hrp hRp hob HP a2' a3' a4' hpbe
        by_cases z2 : 1099511627776 < u1 ∨ u1 < -1099511627776
        · have hX := HX2.out
          rw [if_pos z2] at hX
          have HX := Lib.hid hX
          have bb : (decide (1099511627776 < u1) = true) ∨ (decide (1099511627776 < u1) = false ∧ decide (u1 < -1099511627776) = true) := by
            by_cases h : 1099511627776 < u1
            · left; simpa using h
            · right; exact ⟨by simpa using h, by simp; omega⟩
          clear z2 hX
          rcases bb with bb | ⟨bb, bc⟩
          · go_wp2_with fail
            go_ret2
            exact ⟨by rw [HX.out]; rfl, hbp⟩
          · go_wp2_with fail
            go_ret2
            exact ⟨by rw [HX.out]; rfl, hbp⟩
        have e1' : decide (1099511627776 < u1) = false := by simp; omega
        have e2' : decide (u1 < -1099511627776) = false := by simp; omega
        have wD : IntKind.i64.wrap (pd + u1) = pd + u1 := IntWalk.i64_in _ (by omega)
        have wD2 : wrap64 (pd + u1) = pd + u1 := wrap64_id _ (by omega) (by omega)
        obtain ⟨D, hD⟩ : ∃ D, pd + u1 = D := ⟨_, rfl⟩
        have hX := HX2.out
        rw [if_neg z2, hD] at hX
        rw [hD] at wD wD2
        have hDr : -1099511627776 ≤ D ∧ D ≤ 2199023255552 := by omega
        have wT : IntKind.i64.wrap (pt + D) = pt + D := IntWalk.i64_in _ (by omega)
        have wT2 : wrap64 (pt + D) = pt + D := wrap64_id _ (by omega) (by omega)
        by_cases z3 : D < 1 ∨ 1099511627776 < D ∨ 1099511627776 ≤ pt + D
        · rw [if_pos z3] at hX
          have HX := Lib.hid hX
          have bb : (decide (D < 1) = true) ∨ (decide (D < 1) = false ∧ decide (1099511627776 < D) = true) ∨ (decide (D < 1) = false ∧ decide (1099511627776 < D) = false ∧ decide (1099511627776 ≤ pt + D) = true) := by
            by_cases h : D < 1
            · left; simpa using h
            · by_cases h' : 1099511627776 < D
              · right; left; exact ⟨by simpa using h, by simpa using h'⟩
              · right; right; exact ⟨by simpa using h, by simpa using h', by simp; omega⟩
          clear z2 z3 hX HX2
          rcases bb with bb | ⟨bb, bc⟩ | ⟨bb, bc, bd⟩
          · go_wp2_with fail
            go_ret2
            exact ⟨by rw [HX.out]; rfl, hbp⟩
          · go_wp2_with fail
            go_ret2
            exact ⟨by rw [HX.out]; rfl, hbp⟩
          · go_wp2_with fail
            go_ret2
            exact ⟨by rw [HX.out]; rfl, hbp⟩
        rw [if_neg z3] at hX
        have f1 : decide (D < 1) = false := by simp; omega
        have f2 : decide (1099511627776 < D) = false := by simp; omega
        have f3 : decide (1099511627776 ≤ pt + D) = false := by simp; omega
        have hDT : (0 ≤ pt + D ∧ pt + D < 1099511627776) ∧ (0 ≤ D ∧ D ≤ 1099511627776) := by omega
        obtain ⟨T, hT⟩ : ∃ T, pt + D = T := ⟨_, rfl⟩
        obtain ⟨V, hV⟩ : ∃ V, wrap64 (pv + u2') = V := ⟨_, rfl⟩
        have hVr := wrap_range (pv + u2')
        rw [hT, hV] at hX
        rw [hV] at hVr
        rw [hT] at wT wT2 f3 hDT
        have wV : IntKind.i64.wrap (pv + u2') = V := by rw [← hV, IntKind.wrap_i64]; unfold wrap64; omega
        have HX3 := Lib.hid hX
        have HR3 := Lib.hid (And.intro hDT hVr)
        clear z2 z3 hX hV HX2 HG2 hDT hVr
        have hlm2 : pre.length + 1 + 1 ≤ maxLen := by unfold maxLen; omega
        go_wp2_with fail
        refine wp_region_held_drew (S := fun wx => wx.cell? ⟨pb, 0, none⟩ = some (.int .i64 pt) ∧ wx.cell? ⟨pb, 1, none⟩ = some (.int .i64 pv) ∧ True) (by kernel_rfl) ⟨cp0, cp1, trivial⟩ (fun hHeld => ?_)
        refine held_w (i := 0) (d := some 142) (v := ?_) rfl (by kernel_rfl) (by kernel_rfl) (by kernel_rfl) (fun _ _ _ h => h) (by rfl) ?_ hHeld ?_
        rotate_left
        · intro w' hSw; obtain ⟨q0, q1, q2⟩ := hSw; simp only [List.getElem?_toArray, List.getElem?_cons_zero, List.getElem?_cons_succ]; go_simp; try with_reducible rfl
        try simp only [Act.put, List.setIfInBounds_toArray, List.set_cons_zero, List.set_cons_succ]
        refine held_w (i := 1) (d := some 143) (v := ?_) rfl (by kernel_rfl) (by kernel_rfl) (by kernel_rfl) (fun _ _ _ h => h) (by rfl) ?_ hHeld ?_
        rotate_left
        · intro w' hSw; obtain ⟨q0, q1, q2⟩ := hSw; simp only [List.getElem?_toArray, List.getElem?_cons_zero, List.getElem?_cons_succ]; go_simp; try with_reducible rfl
        try simp only [Act.put, List.setIfInBounds_toArray, List.set_cons_zero, List.set_cons_succ]
        refine held_w (i := 2) (d := some 144) (v := ?_) rfl (by kernel_rfl) (by kernel_rfl) (by kernel_rfl) (fun _ _ _ h => h) (by rfl) ?_ hHeld ?_
        rotate_left
        · intro w' hSw; obtain ⟨q0, q1, q2⟩ := hSw; simp only [List.getElem?_toArray, List.getElem?_cons_zero, List.getElem?_cons_succ]; go_simp; try with_reducible rfl
        try simp only [Act.put, List.setIfInBounds_toArray, List.set_cons_zero, List.set_cons_succ]
        refine held_w (i := 3) (d := some 145) (v := ?_) rfl (by kernel_rfl) (by kernel_rfl) (by kernel_rfl) (fun _ _ _ h => h) (by rfl) ?_ hHeld ?_
        rotate_left
        · intro w' hSw; obtain ⟨q0, q1, q2⟩ := hSw; simp only [List.getElem?_toArray, List.getElem?_cons_zero, List.getElem?_cons_succ]; go_simp; try with_reducible rfl
        try simp only [Act.put, List.setIfInBounds_toArray, List.set_cons_zero, List.set_cons_succ]
        refine held_w (i := 4) (d := some 146) (v := ?_) rfl (by kernel_rfl) (by kernel_rfl) (by kernel_rfl) (fun _ _ _ h => h) (by rfl) ?_ hHeld ?_
        rotate_left
        · intro w' hSw; obtain ⟨q0, q1, q2⟩ := hSw; simp only [List.getElem?_toArray, List.getElem?_cons_zero, List.getElem?_cons_succ]; go_simp; try with_reducible rfl
        try simp only [Act.put, List.setIfInBounds_toArray, List.set_cons_zero, List.set_cons_succ]
        refine held_w (i := 5) (d := some 147) (v := ?_) rfl (by kernel_rfl) (by kernel_rfl) (by kernel_rfl) (fun _ _ _ h => h) (by rfl) ?_ hHeld ?_
        rotate_left
        · intro w' hSw; obtain ⟨q0, q1, q2⟩ := hSw; simp only [List.getElem?_toArray, List.getElem?_cons_zero, List.getElem?_cons_succ]; go_simp; try with_reducible rfl
        try simp only [Act.put, List.setIfInBounds_toArray, List.set_cons_zero, List.set_cons_succ]
        refine held_w (i := 6) (d := some 148) (v := ?_) rfl (by kernel_rfl) (by kernel_rfl) (by kernel_rfl) (fun _ _ _ h => h) (by rfl) ?_ hHeld ?_
        rotate_left
        · intro w' hSw; obtain ⟨q0, q1, q2⟩ := hSw; simp only [List.getElem?_toArray, List.getElem?_cons_zero, List.getElem?_cons_succ]; go_simp; try with_reducible rfl
        try simp only [Act.put, List.setIfInBounds_toArray, List.set_cons_zero, List.set_cons_succ]
        refine held_w (i := 7) (d := some 149) (v := ?_) rfl (by kernel_rfl) (by kernel_rfl) (by kernel_rfl) (fun _ _ _ h => h) (by rfl) ?_ hHeld ?_
        rotate_left
        · intro w' hSw; obtain ⟨q0, q1, q2⟩ := hSw; simp only [List.getElem?_toArray, List.getElem?_cons_zero, List.getElem?_cons_succ]; go_simp; try with_reducible rfl
        try simp only [Act.put, List.setIfInBounds_toArray, List.set_cons_zero, List.set_cons_succ]
        refine held_c (i := 8) (by kernel_rfl) (by rfl) (fun K hK => ?_)
        simp only [List.getElem?_toArray, List.getElem?_cons_zero, List.getElem?_cons_succ]
        go_simp
        refine (U2.out _).mono ?_
        rintro e wx ⟨rfl, rfl⟩
        rw [hu2]
        refine hK.out _ _ hHeld (fun hHeld => ?_)
        clear hK K
        try simp only [Act.put, List.setIfInBounds_toArray, List.set_cons_zero, List.set_cons_succ]
        refine held_w (i := 9) (d := some 151) (v := ?_) rfl (by kernel_rfl) (by kernel_rfl) (by kernel_rfl) (fun _ _ _ h => h) (by rfl) ?_ hHeld ?_
        rotate_left
        · intro w' hSw; obtain ⟨q0, q1, q2⟩ := hSw; simp only [List.getElem?_toArray, List.getElem?_cons_zero, List.getElem?_cons_succ]; go_simp; try with_reducible rfl
        try simp only [Act.put, List.setIfInBounds_toArray, List.set_cons_zero, List.set_cons_succ]
        refine held_w (i := 10) (d := some 152) (v := ?_) rfl (by kernel_rfl) (by kernel_rfl) (by kernel_rfl) (fun _ _ _ h => h) (by rfl) ?_ hHeld ?_
        rotate_left
        · intro w' hSw; obtain ⟨q0, q1, q2⟩ := hSw; simp only [List.getElem?_toArray, List.getElem?_cons_zero, List.getElem?_cons_succ]; go_simp; try with_reducible rfl
        try simp only [Act.put, List.setIfInBounds_toArray, List.set_cons_zero, List.set_cons_succ]
        refine held_c (i := 11) (by kernel_rfl) (by rfl) (fun K hK => ?_)
        simp only [List.getElem?_toArray, List.getElem?_cons_zero, List.getElem?_cons_succ]
        go_simp
        refine hK.out _ _ ⟨blk_cell (blk_alloc (w := Wp.drew) HP2.out.1 _) 0, blk_cell (blk_alloc (w := Wp.drew) HP2.out.1 _) 1, trivial⟩ (fun hHeld => ?_)
        clear hK K
        try simp only [Act.put, List.setIfInBounds_toArray, List.set_cons_zero, List.set_cons_succ]
        refine held_c (i := 12) (by kernel_rfl) (by rfl) (fun K hK => ?_)
        simp only [List.getElem?_toArray, List.getElem?_cons_zero, List.getElem?_cons_succ]
        have HRW : (Wp.drew.alloc (.cells #[.int .i64 T, .int .i64 V] 34)).ownsRow w.heap.size 34 2 (.slice (some ad) (pre.length + 1) cap) (pre.length + 1) (smpC (pre ++ [(pt, pv)])) := World.ownsRow.alloc (w := Wp.drew) HP2.out.2.2.1 _
        refine step_app_wp rfl (.tmp 142) (.tmp 153) 22 rfl w.heap.size 34 i0 (.agg #[.int .i64 0, .int .i64 0]) 2 16 Try.underlying22 hi0 hz0 hz1 hz2 rfl (by decide) (.slice (some ad) (pre.length + 1) cap) (pre.length + 1) _ rfl HRW ⟨Wp.heap.size, 0, none⟩ 1 1 [.int .i64 T, .int .i64 V] rfl rfl (cell_two_new Wp.drew _ _ _) (by intro u hu; simp at hu; rcases hu with rfl | rfl <;> rfl) hlm2 (by omega) (by simp; omega) ?_
        intro A2 cap2 w6 hown hg6 hat
        have k6 : Keeps ((Value.slice (some ad) (pre.length + 1) cap).ownBlock).toList Wp w6 := (((Keeps.refl _ Wp).drew).alloc (.cells #[.int .i64 T, .int .i64 V] 34)).grown hg6 (fun k hk => .inl (by simp [hk]))
        have hob := HP2.out.2.2.2.2
        have hop6 := k6.block HP2.out.1 (fun hm => hob (by simpa using hm))
        have hR6 : IsR 82 p r (pos + d1' + d2') w6 := IsR.keeps HP2.out.2.2.2.1 k6 (fun hm => by
          obtain ⟨cs, hc⟩ := row_block HP2.out.2.2.1 (show (Value.slice (some ad) (pre.length + 1) cap).ownBlock = some p by simpa using hm)
          exact ne_type HP2.out.2.2.2.1 hc (by decide) rfl)
        have hb6 : Below w.heap.size w w6 := hbp.trans (k6.to hpb (fun f hf => (HP2.out.2.2.1.lt f (by simpa using hf)).1))
        have H6 := Lib.hid (And.intro hown (And.intro hR6 hb6))
        refine hK.out _ _ ⟨blk_cell hop6 0, blk_cell hop6 1, trivial⟩ (fun hHeld => ?_)
        clear hK K hown hg6 hat k6 hR6 hb6 HRW hop6
        try simp only [Act.put, List.setIfInBounds_toArray, List.set_cons_zero, List.set_cons_succ]
        refine held_w (i := 13) (d := some 7) (v := ?_) rfl (by kernel_rfl) (by kernel_rfl) (by kernel_rfl) (fun _ _ _ h => h) (by rfl) ?_ hHeld ?_
        rotate_left
        · intro w' hSw; obtain ⟨q0, q1, q2⟩ := hSw; simp only [List.getElem?_toArray, List.getElem?_cons_zero, List.getElem?_cons_succ]; go_simp; try with_reducible rfl
        try simp only [Act.put, List.setIfInBounds_toArray, List.set_cons_zero, List.set_cons_succ]
        refine wpAnyH_done (by kernel_rfl) ?_ _
        go_wp2_with fail
        go_roundw
        case rel =>
          refine ⟨pre ++ [(pt, pv)], T, V, D, pos + d1' + d2', m, A2, cap2, by simp, rfl, ?_, H6.out.2.1, by omega, by simp; omega, ?_, HR3.out.1.1, HR3.out.2, HR3.out.1.2, HW.out.2, H6.out.2.2⟩
          · have h := H6.out.1
            rw [List.length_append, smpC_append (pre ++ [(pt, pv)]) [(T, V)]]
            exact h
          · show _ = _
            rw [HX3.out, Option.map_map]
            rw [Nat.add_assoc]
            congr 1
            funext z
            simp
        case measure => simp [sliceLen]; omega
end Go.Proofs.Yteaelcimlmckjaa
