/-
  Layer 3 (delta): the document's own Encode. samples to bytes.
-/
import Derived.Test.YteaelcimlmckjaaDeltaMem
import Derived.Test.YteaelcimlmckjaaZigRef
import Derived.Test.YteaelcimlmckjaaHeld
import Derived.Test.YteaelcimlmckjaaDeltaTake
import Derived.Test.YteaelcimlmckjaaDeltaNums
import Derived.Test.YteaelcimlmckjaaDeltaEncB
import Derived.Test.YteaelcimlmckjaaRiceRefW
import Derived.Test.YteaelcimlmckjaaRiceCostsB
import Derived.StillTactics
import Derived.OwnWalk
namespace Go.Proofs.Yteaelcimlmckjaa
open Go.RowKit Go.Deep
attribute [local go_sem] str_size str_append str_toList str_get str_extract
set_option linter.unusedVariables false
set_option linter.unusedSimpArgs false

theorem isV_cells {B p : Nat} {l : List Bool} {F : List Nat} {w : World} (h : IsV B p l F w) : ∀ k, k ∈ F → B ≤ k ∧ ((k = p ∧ ∃ cs, w.heap[k]? = some (.cells cs 57 (0, 0))) ∨ ∃ cs, w.heap[k]? = some (.cells cs 4 (0, 0))) := by
  intro k hk
  obtain ⟨v, hp, hr, rfl⟩ := h.ex
  rcases mem_push.1 hk with rfl | e
  · exact ⟨h.low, .inl ⟨rfl, _, hp⟩⟩
  · exact ⟨(hr.lt k e).1, .inr (row_block hr e)⟩
theorem isV_keeps {B p : Nat} {l : List Bool} {F G : List Nat} {w w' : World} (h : IsV B p l F w) (hK : Keeps G w w') (hF : ∀ k, k ∈ F → k ∉ G) : IsV B p l F w' := by
  obtain ⟨v, hp, hr, rfl⟩ := h.ex
  exact ⟨⟨v, hK.block hp (hF p (by simp)), hK.row hr (fun k hk => hF k (mem_push.2 (.inr hk))), rfl⟩, h.low⟩
theorem conv_two_at {P : Program} (src dst e : TypeId) (hs : P.underlying src = some (.slice e)) (he : P.underlying e = some (.int .u8)) (hd : P.underlying dst = some .string) {W : World} {g : Nat} {a b : Int} (h : W.heap[g]? = some (.cells #[.int .u8 a, .int .u8 b] e (0, 0))) :
    (convert src dst (.slice (some ⟨g, 0, none⟩) 2 2)).run P W = .ok (.string (str [UInt8.ofNat a.toNat, UInt8.ofNat b.toNat])) W := by
  refine conv_cells W src dst e ⟨g, 0, none⟩ 2 [a, b] hs he hd ?_
  intro j v hv
  match j, hv with
  | 0, hv => simp at hv; subst hv; simpa [Addr.add] using blk_cell h 0
  | 1, hv => simp at hv; subst hv; simpa [Addr.add] using blk_cell h 1
  | j + 2, hv => simp at hv
theorem hasU_cell {B g n c : Nat} {X : List Nat} {W : World} (h : HasU B (.slice (some ⟨g, 0, none⟩) n c) X W) (k : Nat) (hk : k < X.length) : W.cell? ⟨g, k, none⟩ = some (.int .u64 (X[k] : Int)) := by
  have hc := h.2.cells (g := g) rfl k (natV X[k]) (by rw [List.getElem?_map, List.getElem?_eq_getElem hk]; rfl)
  have e : (⟨g, 0, none⟩ : Addr).add k = ⟨g, k, none⟩ := by unfold Addr.add; split <;> simp_all
  rw [e] at hc
  exact hc
theorem hasU_type {B : Nat} {v : Value} {X : List Nat} {W : World} (h : HasU B v X W) {k : Nat} (hk : v.ownBlock = some k) : ∃ cs, W.heap[k]? = some (.cells cs 43 (0, 0)) := row_block h.2 hk
set_option maxHeartbeats 1000000 in
set_option maxRecDepth 100000 in
theorem refDEnc_c (A : Option Addr) (len cap : Nat) (l : List Smp) (w : World) (hlm : len ≤ maxLen) (hA : SAt w A len l) :
    Calls Try.prog 10 #[.slice A len cap] w fun e w' => e = .returned (.tuple #[.string (str (dEnc l)), .int .i64 (dE l)]) ∧ Below w.heap.size w w' := by
  obtain ⟨i0, hi0, hz0, hz1, hz2⟩ := info_parts u64_info
  have hle := hA.1
  subst hle
  unfold maxLen at hlm
  by_cases hbig : 5000 < l.length
  · have he : dE l = 1 := by unfold dE; rw [if_pos hbig]
    have hd : dEnc l = [] := by unfold dEnc; rw [if_neg (by omega)]
    rw [he, hd]
    clear he hd
    go_enter Try.func10, Try.ntmps10
    go_wp2_with fail
    go_ret2
    exact ⟨rfl, Below.refl _ _⟩
  have hbad : ¬ rises (-1) l → dE l = 30 ∧ dEnc l = [] := fun h => by
    have e : dE l = 30 := by unfold dE; rw [if_neg hbig, if_neg h]
    exact ⟨e, by unfold dEnc; rw [if_neg (by omega)]⟩
  have hgood : rises (-1) l → dE l = 0 ∧ dEnc l = uv l.length ++ dBody l := fun h => by
    have e : dE l = 0 := by unfold dE; rw [if_neg hbig, if_pos h]
    exact ⟨e, by unfold dEnc; rw [if_pos e]⟩
  obtain ⟨T, hT⟩ : ∃ T, dEnc l = T := ⟨_, rfl⟩
  obtain ⟨E, hE⟩ : ∃ E, dE l = E := ⟨_, rfl⟩
  rw [hT, hE] at hbad hgood ⊢
  have HBAD : Hid (¬ rises (-1) l → E = 30 ∧ T = []) := hbad
  have HGOOD : Hid (rises (-1) l → E = 0 ∧ T = uv l.length ++ dBody l) := hgood
  clear hbad hgood hT hE
  go_enter Try.func10, Try.ntmps10
  go_wp2_with fail
  go_loopw [4] (fun c wr => ∃ i : Nat, i ≤ l.length ∧ c = .int .i64 i ∧ Hid ((rises (-1) l ↔ rises (prevT l i) (l.drop i)) ∧ -1 ≤ prevT l i) ∧ Below w.heap.size w wr) (fun c _ => l.length - (intOf c).toNat)
  case atStart => exact ⟨0, Nat.zero_le _, rfl, ⟨Iff.rfl, Int.le_refl _⟩, Below.refl _ _⟩
  case round =>
    obtain ⟨i, hi, rfl, heq, hb⟩ := hrel
    by_cases hlt : i < l.length
    ·
      --cut
      obtain ⟨⟨r1, r2, r3, r4⟩, ad, rfl, h2, h3, h4⟩ := (hA.below hb).2 i hlt
      obtain ⟨t, ht⟩ : ∃ t, l[i].1 = t := ⟨_, rfl⟩
      have hrd := rises_drop l i hlt
      have hps := prevT_succ l i hlt
      rw [ht] at r1 r2 h3 hrd hps
      have HRD : Hid (rises (prevT l i) (l.drop i) ↔ prevT l i < t ∧ t < 1099511627776 ∧ rises (prevT l (i + 1)) (l.drop (i + 1))) := hrd
      clear hrd
      have HPS := Lib.hid hps
      clear hps ht
      by_cases hz : i = 0
      · have d3 : decide (0 < i) = false := by simp; omega
        have HZ := Lib.hid hz
        clear hz
        by_cases b1 : t < 0
        · have d1 : decide (t < 0) = true := by simpa using b1
          obtain ⟨q1, q2⟩ := HBAD.out (fun h => by have := HRD.out.1 (heq.out.1.1 h); have h2 := heq.out.2; omega)
          have HQ := Lib.hid (And.intro q2 q1)
          clear q1 q2
          go_wp2_with fail
          go_quiet (fail)
          go_wp2_with fail
          go_ret2
          exact ⟨by rw [HQ.out.1, HQ.out.2]; rfl, below_drewN hb _⟩
        by_cases b2 : 1099511627776 ≤ t
        · have d1 : decide (t < 0) = false := by simp; omega
          have d2 : decide (1099511627776 ≤ t) = true := by simpa using b2
          obtain ⟨q1, q2⟩ := HBAD.out (fun h => by have := HRD.out.1 (heq.out.1.1 h); omega)
          have HQ := Lib.hid (And.intro q2 q1)
          clear q1 q2
          go_wp2_with fail
          go_quiet (fail)
          go_wp2_with fail
          go_ret2
          exact ⟨by rw [HQ.out.1, HQ.out.2]; rfl, below_drewN hb _⟩
        have d1 : decide (t < 0) = false := by simp; omega
        have d2 : decide (1099511627776 ≤ t) = false := by simp; omega
        go_wp2_with fail
        go_quiet (fail)
        go_wp2_with fail
        go_roundw
        case rel =>
          refine ⟨i + 1, by omega, by go_num, ⟨?_, by rw [HPS.out]; omega⟩, below_drewN hb _⟩
          rw [heq.out.1, HRD.out]
          have e := HZ.out
          subst e
          exact ⟨fun h => h.2.2, fun h => ⟨by show -1 < t; omega, by omega, h⟩⟩
        case measure => simp [intOf]; omega
      · obtain ⟨j, rfl⟩ : ∃ j, i = j + 1 := ⟨i - 1, by omega⟩
        clear hz
        obtain ⟨⟨s1, s2, s3, s4⟩, ad', had, k2, k3, k4⟩ := (hA.below hb).2 j (by omega)
        obtain rfl : ad = ad' := by injection had
        have hpj := prevT_succ l j (by omega)
        obtain ⟨p, hp⟩ : ∃ p, l[j].1 = p := ⟨_, rfl⟩
        rw [hp] at s1 s2 k3 hpj
        have HPJ := Lib.hid hpj
        clear hpj hp had
        have d3 : decide (0 < ((j + 1 : Nat) : Int)) = true := by simp
        have d5 : IntKind.i64.wrap (((j + 1 : Nat) : Int) - 1) = (j : Int) := by rw [show ((j + 1 : Nat) : Int) - 1 = j by omega]; exact IntWalk.i64_in _ (by omega)
        by_cases b1 : t < 0
        · have d1 : decide (t < 0) = true := by simpa using b1
          obtain ⟨q1, q2⟩ := HBAD.out (fun h => by have h := HRD.out.1 (heq.out.1.1 h); have h2 := heq.out.2; omega)
          have HQ := Lib.hid (And.intro q2 q1)
          clear q1 q2
          go_wp2_with fail
          go_quiet (fail)
          go_wp2_with fail
          go_ret2
          exact ⟨by rw [HQ.out.1, HQ.out.2]; rfl, below_drewN hb _⟩
        have d1 : decide (t < 0) = false := by simp; omega
        by_cases b2 : 1099511627776 ≤ t
        · have d2 : decide (1099511627776 ≤ t) = true := by simpa using b2
          obtain ⟨q1, q2⟩ := HBAD.out (fun h => by have := HRD.out.1 (heq.out.1.1 h); omega)
          have HQ := Lib.hid (And.intro q2 q1)
          clear q1 q2
          go_wp2_with fail
          go_quiet (fail)
          go_wp2_with fail
          go_ret2
          exact ⟨by rw [HQ.out.1, HQ.out.2]; rfl, below_drewN hb _⟩
        have d2 : decide (1099511627776 ≤ t) = false := by simp; omega
        by_cases b3 : t ≤ p
        · have d4 : decide (t ≤ p) = true := by simpa using b3
          obtain ⟨q1, q2⟩ := HBAD.out (fun h => by have h := (HRD.out.1 (heq.out.1.1 h)).1; rw [HPJ.out] at h; omega)
          have HQ := Lib.hid (And.intro q2 q1)
          clear q1 q2
          go_wp2_with fail
          go_quiet (fail)
          go_wp2_with fail
          go_ret2
          exact ⟨by rw [HQ.out.1, HQ.out.2]; rfl, below_drewN hb _⟩
        have d4 : decide (t ≤ p) = false := by simp; omega
        go_wp2_with fail
        go_quiet (fail)
        go_wp2_with fail
        go_roundw
        case rel =>
          refine ⟨j + 2, by omega, by go_num, ⟨?_, by rw [HPS.out]; omega⟩, below_drewN hb _⟩
          rw [heq.out.1, HRD.out, HPJ.out]
          exact ⟨fun h => h.2.2, fun h => ⟨by omega, by omega, h⟩⟩
        case measure => simp [intOf]; omega
      --uncut
    · obtain rfl : i = l.length := by omega
      have hris : rises (-1) l := heq.out.1.2 (by rw [List.drop_length]; exact True.intro)
      obtain ⟨hE, hT⟩ := HGOOD.out hris
      have HT := Lib.hid hT
      have HE := Lib.hid hE
      have HR := Lib.hid hris
      clear hT hE hris HBAD HGOOD
      go_wp2_with fail
      refine (refUint_c l.length _ (by omega)).mono ?_
      rintro e w1 ⟨rfl, hb1⟩
      have hB1 := below2 hb hb1 hb.size
      by_cases hz : l.length = 0
      · have hl0 : l = [] := List.length_eq_zero_iff.1 hz
        go_wp2_with fail
        go_ret2
        refine ⟨?_, hB1⟩
        rw [HT.out, HE.out, hl0]
        simp [dBody]
      · obtain ⟨⟨r1, r2, r3, r4⟩, ad, rfl, h2, h3, h4⟩ := (hA.below hB1).2 0 (by omega)
        obtain ⟨t, ht⟩ : ∃ t, l[0].1 = t := ⟨_, rfl⟩
        obtain ⟨v, hv⟩ : ∃ v, l[0].2 = v := ⟨_, rfl⟩
        rw [ht, add_nought] at h3
        rw [ht] at r1 r2
        rw [hv, add_nought] at h4
        rw [hv] at r3 r4
        rw [add_nought] at h2
        have HTV := Lib.hid (And.intro ht hv)
        clear ht hv
        obtain ⟨r, hlr⟩ : ∃ r, l = (t, v) :: r := by
          cases l with
          | nil => exact absurd rfl hz
          | cons s r => exact ⟨r, by rw [← HTV.out.1, ← HTV.out.2]; rfl⟩
        have hb5 : 0 ≤ t ∧ t < 1099511627776 := by
          have h := HR.out
          rw [hlr] at h
          have h5 := h.1
          have h6 := h.2.1
          simp only at h5 h6
          omega
        have HLR := Lib.hid hlr
        have HLN : Hid (l.length = r.length + 1) := by show _ = _; rw [hlr]; rfl
        clear hlr
        obtain ⟨t, rfl⟩ : ∃ n : Nat, t = n := ⟨t.toNat, by omega⟩
        have hpos : 0 < l.length := by omega
        have hwu : IntKind.u64.wrap (t : Int) = (t : Int) := IntWalk.u64_in _ (by omega)
        have hlu := uv_len10 (n := l.length) (by omega)
        have hlt' := uv_len10 (n := t) (by omega)
        have hli := iv_len v r3 r4
        have hs1 : ¬ (9223372036854775807 < (uv l.length).length + (uv t).length) := by omega
        have hs2 : ¬ (9223372036854775807 < (uv l.length).length + (uv t).length + (iv v).length) := by omega
        have hs3 : ¬ (9223372036854775807 < (uv l.length).length + ((uv t).length + (iv v).length)) := by omega
        go_wp2_with fail
        refine wp_region_held_drew (S := fun w' => w'.cell? ad = some (.int .i64 (t : Int)) ∧ w'.cell? ⟨ad.block, ad.off + 1, none⟩ = some (.int .i64 v) ∧ True) (by kernel_rfl) ⟨h3, h4, trivial⟩ (fun hHeld => ?_)
        refine held_w (i := 0) (d := some 64) (v := ?_) rfl (by kernel_rfl) (by kernel_rfl) (by kernel_rfl) (fun _ _ _ h => h) (by rfl) ?_ hHeld ?_
        rotate_left
        · intro w' hSw; obtain ⟨q0, q1, q2⟩ := hSw; simp only [List.getElem?_toArray, List.getElem?_cons_zero, List.getElem?_cons_succ]; go_simp; try with_reducible rfl
        try simp only [Act.put, List.setIfInBounds_toArray, List.set_cons_zero, List.set_cons_succ]
        refine held_w (i := 1) (d := some 65) (v := ?_) rfl (by kernel_rfl) (by kernel_rfl) (by kernel_rfl) (fun _ _ _ h => h) (by rfl) ?_ hHeld ?_
        rotate_left
        · intro w' hSw; obtain ⟨q0, q1, q2⟩ := hSw; simp only [List.getElem?_toArray, List.getElem?_cons_zero, List.getElem?_cons_succ]; go_simp; try with_reducible rfl
        try simp only [Act.put, List.setIfInBounds_toArray, List.set_cons_zero, List.set_cons_succ]
        refine held_w (i := 2) (d := some 66) (v := ?_) rfl (by kernel_rfl) (by kernel_rfl) (by kernel_rfl) (fun _ _ _ h => h) (by rfl) ?_ hHeld ?_
        rotate_left
        · intro w' hSw; obtain ⟨q0, q1, q2⟩ := hSw; simp only [List.getElem?_toArray, List.getElem?_cons_zero, List.getElem?_cons_succ]; go_simp; try with_reducible rfl
        try simp only [Act.put, List.setIfInBounds_toArray, List.set_cons_zero, List.set_cons_succ]
        refine held_w (i := 3) (d := some 67) (v := ?_) rfl (by kernel_rfl) (by kernel_rfl) (by kernel_rfl) (fun _ _ _ h => h) (by rfl) ?_ hHeld ?_
        rotate_left
        · intro w' hSw; obtain ⟨q0, q1, q2⟩ := hSw; simp only [List.getElem?_toArray, List.getElem?_cons_zero, List.getElem?_cons_succ]; go_simp; try with_reducible rfl
        try simp only [Act.put, List.setIfInBounds_toArray, List.set_cons_zero, List.set_cons_succ]
        refine held_w (i := 4) (d := some 68) (v := ?_) rfl (by kernel_rfl) (by kernel_rfl) (by kernel_rfl) (fun _ _ _ h => h) (by rfl) ?_ hHeld ?_
        rotate_left
        · intro w' hSw; obtain ⟨q0, q1, q2⟩ := hSw; simp only [List.getElem?_toArray, List.getElem?_cons_zero, List.getElem?_cons_succ]; go_simp; try with_reducible rfl
        try simp only [Act.put, List.setIfInBounds_toArray, List.set_cons_zero, List.set_cons_succ]
        refine held_w (i := 5) (d := some 69) (v := ?_) rfl (by kernel_rfl) (by kernel_rfl) (by kernel_rfl) (fun _ _ _ h => h) (by rfl) ?_ hHeld ?_
        rotate_left
        · intro w' hSw; obtain ⟨q0, q1, q2⟩ := hSw; simp only [List.getElem?_toArray, List.getElem?_cons_zero, List.getElem?_cons_succ]; go_simp; try with_reducible rfl
        try simp only [Act.put, List.setIfInBounds_toArray, List.set_cons_zero, List.set_cons_succ]
        refine held_w (i := 8) (d := some 72) (v := ?_) rfl (by kernel_rfl) (by kernel_rfl) (by kernel_rfl) (fun _ _ _ h => h) (by rfl) ?_ hHeld ?_
        rotate_left
        · intro w' hSw; obtain ⟨q0, q1, q2⟩ := hSw; simp only [List.getElem?_toArray, List.getElem?_cons_zero, List.getElem?_cons_succ]; go_simp; try with_reducible rfl
        try simp only [Act.put, List.setIfInBounds_toArray, List.set_cons_zero, List.set_cons_succ]
        refine held_w (i := 9) (d := some 73) (v := ?_) rfl (by kernel_rfl) (by kernel_rfl) (by kernel_rfl) (fun _ _ _ h => h) (by rfl) ?_ hHeld ?_
        rotate_left
        · intro w' hSw; obtain ⟨q0, q1, q2⟩ := hSw; simp only [List.getElem?_toArray, List.getElem?_cons_zero, List.getElem?_cons_succ]; go_simp; try with_reducible rfl
        try simp only [Act.put, List.setIfInBounds_toArray, List.set_cons_zero, List.set_cons_succ]
        refine held_w (i := 10) (d := some 74) (v := ?_) rfl (by kernel_rfl) (by kernel_rfl) (by kernel_rfl) (fun _ _ _ h => h) (by rfl) ?_ hHeld ?_
        rotate_left
        · intro w' hSw; obtain ⟨q0, q1, q2⟩ := hSw; simp only [List.getElem?_toArray, List.getElem?_cons_zero, List.getElem?_cons_succ]; go_simp; try with_reducible rfl
        try simp only [Act.put, List.setIfInBounds_toArray, List.set_cons_zero, List.set_cons_succ]
        refine held_w (i := 11) (d := some 75) (v := ?_) rfl (by kernel_rfl) (by kernel_rfl) (by kernel_rfl) (fun _ _ _ h => h) (by rfl) ?_ hHeld ?_
        rotate_left
        · intro w' hSw; obtain ⟨q0, q1, q2⟩ := hSw; simp only [List.getElem?_toArray, List.getElem?_cons_zero, List.getElem?_cons_succ]; go_simp; try with_reducible rfl
        try simp only [Act.put, List.setIfInBounds_toArray, List.set_cons_zero, List.set_cons_succ]
        refine held_c (i := 6) (by kernel_rfl) (by rfl) (fun K hK => ?_)
        simp only [List.getElem?_toArray, List.getElem?_cons_zero, List.getElem?_cons_succ]
        go_simp
        refine (refUint_c t _ (by omega)).mono ?_
        rintro e w2 ⟨rfl, hb2⟩
        have h32 := (hb2.cell (p := ad) h2).trans h3
        have h42 := (hb2.cell (p := ⟨ad.block, ad.off + 1, none⟩) h2).trans h4
        refine hK.out _ _ ⟨h32, h42, trivial⟩ (fun hHeld => ?_)
        clear hK K
        try simp only [Act.put, List.setIfInBounds_toArray, List.set_cons_zero, List.set_cons_succ]
        refine held_w (i := 7) (d := some 71) (v := ?_) rfl (by kernel_rfl) (by kernel_rfl) (by kernel_rfl) (fun _ _ _ h => h) (by rfl) ?_ hHeld ?_
        rotate_left
        · intro w' hSw; obtain ⟨q0, q1, q2⟩ := hSw; simp only [List.getElem?_toArray, List.getElem?_cons_zero, List.getElem?_cons_succ]; go_simp; try with_reducible rfl
        try simp only [Act.put, List.setIfInBounds_toArray, List.set_cons_zero, List.set_cons_succ]
        refine held_c (i := 12) (by kernel_rfl) (by rfl) (fun K hK => ?_)
        simp only [List.getElem?_toArray, List.getElem?_cons_zero, List.getElem?_cons_succ]
        go_simp
        refine (refInt_c v _ r3 r4).mono ?_
        rintro e w3 ⟨rfl, hb3⟩
        have hb23 : Below w1.heap.size w1 w3 := below2 (below_of_drew hb2) hb3 (below_of_drew hb2).size
        have h33 := (hb23.cell (p := ad) h2).trans h3
        have h43 := (hb23.cell (p := ⟨ad.block, ad.off + 1, none⟩) h2).trans h4
        refine hK.out _ _ ⟨h33, h43, trivial⟩ (fun hHeld => ?_)
        clear hK K
        try simp only [Act.put, List.setIfInBounds_toArray, List.set_cons_zero, List.set_cons_succ]
        refine held_w (i := 13) (d := some 77) (v := ?_) rfl (by kernel_rfl) (by kernel_rfl) (by kernel_rfl) (fun _ _ _ h => h) (by rfl) ?_ hHeld ?_
        rotate_left
        · intro w' hSw; obtain ⟨q0, q1, q2⟩ := hSw; simp only [List.getElem?_toArray, List.getElem?_cons_zero, List.getElem?_cons_succ]; go_simp; try with_reducible rfl
        try simp only [Act.put, List.setIfInBounds_toArray, List.set_cons_zero, List.set_cons_succ]
        refine held_w (i := 14) (d := some 5) (v := ?_) rfl (by kernel_rfl) (by kernel_rfl) (by kernel_rfl) (fun _ _ _ h => h) (by rfl) ?_ hHeld ?_
        rotate_left
        · intro w' hSw; obtain ⟨q0, q1, q2⟩ := hSw; simp only [List.getElem?_toArray, List.getElem?_cons_zero, List.getElem?_cons_succ]; go_simp; try with_reducible rfl
        try simp only [Act.put, List.setIfInBounds_toArray, List.set_cons_zero, List.set_cons_succ]
        refine wpAnyH_done (by kernel_rfl) ?_ _
        have hB3 := below2 hB1 hb23 hB1.size
        have hT3 : T = uv l.length ++ (uv t ++ (iv v ++ dTail t v r)) := by
          rw [HT.out]
          congr 1
          rw [HLR.out]
          simp [dBody]
        by_cases h1 : l.length = 1
        · clear hs1 hs2 hs3
          have HT3 := Lib.hid hT3
          clear hT3
          go_wp2_with fail
          go_ret2
          refine ⟨?_, hB3⟩
          have hr0 : r = [] := List.length_eq_zero_iff.1 (by have := HLN.out; omega)
          rw [HT3.out, HE.out, hr0]
          simp [dTail]
        · have HT3 := Lib.hid hT3
          clear hT3 hs1 hs2 hs3
          have h1b : ((l.length : Int) == 1) = false := by simp; omega
          have hbo := hB3
          clear hb hB1 hb1 hb2 hb3 hb23 hB3 h32 h42 h33 h43 h3 h4 h2 hi hlt heq hHeld
          go_wp2_with fail
          go_loopw [6, 7, 8, 9] (fun tv vv av c wr => ∃ k : Nat, k + 1 ≤ l.length ∧ c = .int .i64 ((k : Int) + 1) ∧ av = .int .i64 (pdAt (t : Int) 0 r k) ∧ HasU w.heap.size tv ((tsF (t : Int) 0 r).take k) wr ∧ HasU w.heap.size vv ((vsF v r).take k) wr ∧ (∀ g, tv.ownBlock = some g → vv.ownBlock ≠ some g) ∧ Below w.heap.size w wr) (fun _ _ _ c _ => l.length - (intOf c).toNat)
          case atStart =>
            have hs := hbo.size
            refine ⟨0, by omega, rfl, rfl, (HasU.empty w3 _ hs).alloc _, ?_, ?_, (hbo.alloc hs _).alloc (by simp; omega) _⟩
            · have h := HasU.empty (w3.alloc (.cells #[] 43)) w.heap.size (by simp; omega)
              simpa using h
            · intro g hg
              simp [Value.ownBlock] at hg ⊢
              omega
          case round =>
            obtain ⟨k, hk, rfl, rfl, hts, hvs, hap, hb⟩ := hrel
            by_cases hlt : k + 1 < l.length
            ·
              --cut
              have hrk : k < r.length := by have := HLN.out; omega
              obtain ⟨⟨r1, r2, r3, r4⟩, ad1, had1, h2, h3, h4⟩ := hA.2 (k + 1) hlt
              obtain rfl : ad = ad1 := by injection had1
              obtain ⟨⟨s1, s2, s3, s4⟩, ad2, had2, k2, k3, k4⟩ := hA.2 k (by omega)
              obtain rfl : ad = ad2 := by injection had2
              have e1 : l[k + 1] = r[k] := by simp [HLR.out]
              have e2 : l[k] = (ptAt (t : Int) r k, pvAt v r k) := by
                cases k with
                | zero => simp [HLR.out, ptAt, pvAt]
                | succ k => simp [HLR.out, ptAt, pvAt, List.getD_eq_getElem?_getD, show k < r.length by omega]
              rw [e1] at r1 r2 r3 r4 h3 h4
              rw [e2] at s1 s2 s3 s4 k3 k4
              have hra := rises_at r (t : Int) k hrk (by have h := HR.out; rw [HLR.out] at h; exact h.2.2)
              have hpd := pdAt_range r (t : Int) (by omega) k (by omega) (by have h := HR.out; rw [HLR.out] at h; exact h.2.2)
              have htt := tsF_take r (t : Int) 0 k hrk
              have hvt := vsF_take r v k hrk
              have hpn : pdAt (t : Int) 0 r (k + 1) = r[k].1 - ptAt (t : Int) r k := by simp [pdAt, List.getD_eq_getElem?_getD, hrk]
              obtain ⟨t1, ht1⟩ : ∃ x, r[k].1 = x := ⟨_, rfl⟩
              obtain ⟨v1, hv1⟩ : ∃ x, r[k].2 = x := ⟨_, rfl⟩
              obtain ⟨p, hp⟩ : ∃ x, ptAt (t : Int) r k = x := ⟨_, rfl⟩
              obtain ⟨q, hq⟩ : ∃ x, pvAt v r k = x := ⟨_, rfl⟩
              obtain ⟨d, hd⟩ : ∃ x, pdAt (t : Int) 0 r k = x := ⟨_, rfl⟩
              rw [ht1, hp] at hra hpn
              rw [ht1, hp, hd] at htt
              rw [hv1, hq] at hvt
              rw [ht1] at r1 r2 h3
              rw [hv1] at r3 r4 h4
              rw [hd] at hpd ⊢
              rw [hp] at s1 s2 k3
              rw [hq] at s3 s4 k4
              simp only at s1 s2 s3 s4 k3 k4
              clear ht1 hv1 hp hq hd e1 e2 had1 had2
              have HC4 := Lib.hid (fun (W : World) (hW : Below w.heap.size w W) => (And.intro ((hW.cell (p := ⟨(ad.add ((k + 1) * 2)).block, (ad.add ((k + 1) * 2)).off + 1, none⟩) h2).trans h4) ((hW.cell (p := ⟨(ad.add (k * 2)).block, (ad.add (k * 2)).off + 1, none⟩) k2).trans k4)))
              have h3 := (hb.cell (p := ad.add ((k + 1) * 2)) h2).trans h3
              have k3 := (hb.cell (p := ad.add (k * 2)) k2).trans k3
              clear h4 k4
              obtain ⟨D, hD⟩ : ∃ D, t1 - p = D := ⟨_, rfl⟩
              rw [hD] at htt hpn
              have sD : IntKind.i64.wrap (t1 - p) = D := by rw [hD]; exact IntWalk.i64_in _ (by omega)
              have hDr : 1 ≤ D ∧ D ≤ 1099511627776 := by omega
              obtain ⟨X, hX⟩ : ∃ X, D - d = X := ⟨_, rfl⟩
              rw [hX] at htt
              have sX : IntKind.i64.wrap (D - d) = X := by rw [hX]; exact IntWalk.i64_in _ (by omega)
              have hXr : -9223372036854775808 ≤ X ∧ X ≤ 9223372036854775807 := by omega
              obtain ⟨Y, hY⟩ : ∃ Y, wrap64 (v1 - q) = Y := ⟨_, rfl⟩
              have hYr : -9223372036854775808 ≤ Y ∧ Y ≤ 9223372036854775807 := by rw [← hY]; exact wrap_range _
              rw [hY] at hvt
              have sY : IntKind.i64.wrap (v1 - q) = Y := by rw [← hY, IntKind.wrap_i64]; unfold wrap64; omega
              have hfx := refFold_c X
              have hfy := refFold_c Y
              obtain ⟨x, hx⟩ : ∃ x, (fold X).toNat = x := ⟨_, rfl⟩
              obtain ⟨y, hy⟩ : ∃ y, (fold Y).toNat = y := ⟨_, rfl⟩
              rw [← fold_toNat, hx] at hfx
              rw [← fold_toNat, hy] at hfy
              rw [hx] at htt
              rw [hy] at hvt
              have HTT := Lib.hid (And.intro htt hvt)
              have HPN := Lib.hid hpn
              have HFX := Lib.hid (fun W => hfx W hXr.1 hXr.2)
              have HFY := Lib.hid (fun W => hfy W hYr.1 hYr.2)
              have hkr : (tsF (t : Int) 0 r).length = r.length ∧ (vsF v r).length = r.length := ⟨tsF_length _ _ _, vsF_length _ _⟩
              have hl1 : ((tsF (t : Int) 0 r).take k).length = k := by rw [List.length_take, hkr.1]; omega
              have hl2 : ((vsF v r).take k).length = k := by rw [List.length_take, hkr.2]; omega
              clear hD hX hY hx hy htt hvt hpn hfx hfy hra hpd hkr
              generalize (tsF (t : Int) 0 r).take k = xs at *
              generalize (vsF v r).take k = ys at *
              have HT1 := Lib.hid hts
              have HV1 := Lib.hid hvs
              obtain ⟨⟨g1, cap1, rfl⟩, -⟩ := hts
              obtain ⟨⟨g2, cap2, rfl⟩, -⟩ := hvs
              have HAP := Lib.hid hap
              have HL := Lib.hid (And.intro hl1 hl2)
              clear hap hl1 hl2
              have sk : IntKind.i64.wrap ((k : Int) + 1 - 1) = (k : Int) := by rw [show (k : Int) + 1 - 1 = k by omega]; exact IntWalk.i64_in _ (by omega)
              go_wp2_with fail
              go_quiet (fail)
              go_wp2_with fail
              refine (HFX.out _).mono ?_
              rintro e w' ⟨rfl, rfl⟩
              have hb2 := below_drewN hb nq
              have hb2s : w.heap.size ≤ wr.heap.size := hb.size
              have HO := Lib.hid (HT1.out.2.alloc (.cells #[natV x] 43))
              go_wp2_with (at_builtin; refine wpList_append_own_at _ rfl (.tmp 102) (.tmp 107) 45 rfl w.heap.size 43 i0 (.int .u64 0) 1 8 Try.underlying45 hi0 hz0 hz1 hz2 rfl (by decide) _ xs.length _ rfl HO.out ⟨wr.heap.size, 0, none⟩ 1 1 [natV x] rfl rfl ?c1 ?c2 ?c3 ?c4 ?c5 ?c6)
              case c1 => exact cell_one_new _ _ _
              case c2 => intro u hu; simp at hu; subst hu; rfl
              case c3 => have := HL.out.1; unfold maxLen; omega
              case c4 => have := HL.out.1; omega
              case c5 => simp; omega
              case c6 =>
                intro v1' w4 hown1 hg1 hne hat
                have hU1 : HasU w.heap.size v1' (xs ++ [x]) w4 := HasU.of hown1 (by simp) (by simp) hne
                have hb3 : Below w.heap.size w w4 := (hb2.alloc hb2s _).grown hg1 (by simp; omega) (fun g hg => (HO.out.lt g hg).1)
                have hb3s := hb3.size
                have hK1 : Keeps [g1] wr w4 := (((Keeps.refl [g1] wr).drewN nq).alloc (.cells #[natV x] 43)).grown hg1 (fun g hg => .inl (by simp [Value.ownBlock] at hg; simp [hg]))
                have hV4 : HasU w.heap.size (.slice (some ⟨g2, 0, none⟩) ys.length cap2) ys w4 := HV1.out.keeps hK1 (fun g hg hg' => by
                  simp at hg'; subst hg'; exact HAP.out g rfl hg)
                have hap4 : ∀ g, v1'.ownBlock = some g → (Value.slice (some ⟨g2, 0, none⟩) ys.length cap2).ownBlock ≠ some g := by
                  intro g hg hg2'
                  have hl2 := (HV1.out.2.lt g2 rfl).2
                  simp [Value.ownBlock] at hg2'
                  subst hg2'
                  rcases hat with e | e
                  · rw [e] at hg; exact HAP.out _ hg rfl
                  · rw [e] at hg; injection hg with hg; omega
                obtain ⟨⟨g3, cap3, rfl⟩, -⟩ := id hU1
                have HU1 := Lib.hid hU1
                have HV4 := Lib.hid hV4
                have HAP4 := Lib.hid hap4
                clear hown1 hg1 hne hat hU1 hV4 hap4 hK1 h3 k3 HO HAP HT1 HV1 hb2 hb2s hb
                go_wp2_with fail
                have q1 : (0 : Int) ≤ (k : Int) + 1 := by omega
                have q2 : (k : Int) + 1 < (l.length : Int) := by omega
                have q3 : ((k : Int) + 1).toNat = k + 1 := by omega
                have q5 : (k : Int) < (l.length : Int) := by omega
                have q6 : k < l.length := by omega
                have q4 : IntKind.i64.wrap (k : Int) = (k : Int) := IntWalk.i64_in _ (by omega)
                refine wp_region_held_drew (S := fun w' => w'.cell? ⟨(ad.add ((k + 1) * 2)).block, (ad.add ((k + 1) * 2)).off + 1, none⟩ = some (.int .i64 v1) ∧ w'.cell? ⟨(ad.add (k * 2)).block, (ad.add (k * 2)).off + 1, none⟩ = some (.int .i64 q) ∧ True) (by kernel_rfl) ⟨(HC4.out _ hb3).1, (HC4.out _ hb3).2, trivial⟩ (fun hHeld => ?_)
                refine held_w (i := 0) (d := some 109) (v := ?_) rfl (by kernel_rfl) (by kernel_rfl) (by kernel_rfl) (fun _ _ _ h => h) (by rfl) ?_ hHeld ?_
                rotate_left
                · intro w' hSw; obtain ⟨q0, q1, q2⟩ := hSw; simp only [List.getElem?_toArray, List.getElem?_cons_zero, List.getElem?_cons_succ]; go_simp; try with_reducible rfl
                try simp only [Act.put, List.setIfInBounds_toArray, List.set_cons_zero, List.set_cons_succ]
                refine held_w (i := 1) (d := some 110) (v := ?_) rfl (by kernel_rfl) (by kernel_rfl) (by kernel_rfl) (fun _ _ _ h => h) (by rfl) ?_ hHeld ?_
                rotate_left
                · intro w' hSw; obtain ⟨q0, q1, q2⟩ := hSw; simp only [List.getElem?_toArray, List.getElem?_cons_zero, List.getElem?_cons_succ]; go_simp; try with_reducible rfl
                try simp only [Act.put, List.setIfInBounds_toArray, List.set_cons_zero, List.set_cons_succ]
                refine held_w (i := 2) (d := some 111) (v := ?_) rfl (by kernel_rfl) (by kernel_rfl) (by kernel_rfl) (fun _ _ _ h => h) (by rfl) ?_ hHeld ?_
                rotate_left
                · intro w' hSw; obtain ⟨q0, q1, q2⟩ := hSw; simp only [List.getElem?_toArray, List.getElem?_cons_zero, List.getElem?_cons_succ]; go_simp; try with_reducible rfl
                try simp only [Act.put, List.setIfInBounds_toArray, List.set_cons_zero, List.set_cons_succ]
                refine held_w (i := 3) (d := some 112) (v := ?_) rfl (by kernel_rfl) (by kernel_rfl) (by kernel_rfl) (fun _ _ _ h => h) (by rfl) ?_ hHeld ?_
                rotate_left
                · intro w' hSw; obtain ⟨q0, q1, q2⟩ := hSw; simp only [List.getElem?_toArray, List.getElem?_cons_zero, List.getElem?_cons_succ]; go_simp; try with_reducible rfl
                try simp only [Act.put, List.setIfInBounds_toArray, List.set_cons_zero, List.set_cons_succ]
                refine held_w (i := 4) (d := some 113) (v := ?_) rfl (by kernel_rfl) (by kernel_rfl) (by kernel_rfl) (fun _ _ _ h => h) (by rfl) ?_ hHeld ?_
                rotate_left
                · intro w' hSw; obtain ⟨q0, q1, q2⟩ := hSw; simp only [List.getElem?_toArray, List.getElem?_cons_zero, List.getElem?_cons_succ]; go_simp; try with_reducible rfl
                try simp only [Act.put, List.setIfInBounds_toArray, List.set_cons_zero, List.set_cons_succ]
                refine held_w (i := 5) (d := some 114) (v := ?_) rfl (by kernel_rfl) (by kernel_rfl) (by kernel_rfl) (fun _ _ _ h => h) (by rfl) ?_ hHeld ?_
                rotate_left
                · intro w' hSw; obtain ⟨q0, q1, q2⟩ := hSw; simp only [List.getElem?_toArray, List.getElem?_cons_zero, List.getElem?_cons_succ]; go_simp; try with_reducible rfl
                try simp only [Act.put, List.setIfInBounds_toArray, List.set_cons_zero, List.set_cons_succ]
                refine held_w (i := 6) (d := some 115) (v := ?_) rfl (by kernel_rfl) (by kernel_rfl) (by kernel_rfl) (fun _ _ _ h => h) (by rfl) ?_ hHeld ?_
                rotate_left
                · intro w' hSw; obtain ⟨q0, q1, q2⟩ := hSw; simp only [List.getElem?_toArray, List.getElem?_cons_zero, List.getElem?_cons_succ]; go_simp; try with_reducible rfl
                try simp only [Act.put, List.setIfInBounds_toArray, List.set_cons_zero, List.set_cons_succ]
                refine held_w (i := 7) (d := some 116) (v := ?_) rfl (by kernel_rfl) (by kernel_rfl) (by kernel_rfl) (fun _ _ _ h => h) (by rfl) ?_ hHeld ?_
                rotate_left
                · intro w' hSw; obtain ⟨q0, q1, q2⟩ := hSw; simp only [List.getElem?_toArray, List.getElem?_cons_zero, List.getElem?_cons_succ]; go_simp; try with_reducible rfl
                try simp only [Act.put, List.setIfInBounds_toArray, List.set_cons_zero, List.set_cons_succ]
                refine held_w (i := 8) (d := some 117) (v := ?_) rfl (by kernel_rfl) (by kernel_rfl) (by kernel_rfl) (fun _ _ _ h => h) (by rfl) ?_ hHeld ?_
                rotate_left
                · intro w' hSw; obtain ⟨q0, q1, q2⟩ := hSw; simp only [List.getElem?_toArray, List.getElem?_cons_zero, List.getElem?_cons_succ]; go_simp; try with_reducible rfl
                try simp only [Act.put, List.setIfInBounds_toArray, List.set_cons_zero, List.set_cons_succ]
                refine held_w (i := 9) (d := some 118) (v := ?_) rfl (by kernel_rfl) (by kernel_rfl) (by kernel_rfl) (fun _ _ _ h => h) (by rfl) ?_ hHeld ?_
                rotate_left
                · intro w' hSw; obtain ⟨q0, q1, q2⟩ := hSw; simp only [List.getElem?_toArray, List.getElem?_cons_zero, List.getElem?_cons_succ]; go_simp; try with_reducible rfl
                try simp only [Act.put, List.setIfInBounds_toArray, List.set_cons_zero, List.set_cons_succ]
                refine held_w (i := 10) (d := some 119) (v := ?_) rfl (by kernel_rfl) (by kernel_rfl) (by kernel_rfl) (fun _ _ _ h => h) (by rfl) ?_ hHeld ?_
                rotate_left
                · intro w' hSw; obtain ⟨q0, q1, q2⟩ := hSw; simp only [List.getElem?_toArray, List.getElem?_cons_zero, List.getElem?_cons_succ]; go_simp; try with_reducible rfl
                try simp only [Act.put, List.setIfInBounds_toArray, List.set_cons_zero, List.set_cons_succ]
                refine held_w (i := 11) (d := some 120) (v := ?_) rfl (by kernel_rfl) (by kernel_rfl) (by kernel_rfl) (fun _ _ _ h => h) (by rfl) ?_ hHeld ?_
                rotate_left
                · intro w' hSw; obtain ⟨q0, q1, q2⟩ := hSw; simp only [List.getElem?_toArray, List.getElem?_cons_zero, List.getElem?_cons_succ]; go_simp; try with_reducible rfl
                try simp only [Act.put, List.setIfInBounds_toArray, List.set_cons_zero, List.set_cons_succ]
                refine held_w (i := 12) (d := some 121) (v := ?_) rfl (by kernel_rfl) (by kernel_rfl) (by kernel_rfl) (fun _ _ _ h => h) (by rfl) ?_ hHeld ?_
                rotate_left
                · intro w' hSw; obtain ⟨q0, q1, q2⟩ := hSw; simp only [List.getElem?_toArray, List.getElem?_cons_zero, List.getElem?_cons_succ]; go_simp; try with_reducible rfl
                try simp only [Act.put, List.setIfInBounds_toArray, List.set_cons_zero, List.set_cons_succ]
                refine held_c (i := 13) (by kernel_rfl) (by rfl) (fun K hK => ?_)
                simp only [List.getElem?_toArray, List.getElem?_cons_zero, List.getElem?_cons_succ]
                go_simp
                refine (HFY.out _).mono ?_
                rintro e w' ⟨rfl, rfl⟩
                refine hK.out _ _ hHeld (fun hHeld => ?_)
                clear hK K
                try simp only [Act.put, List.setIfInBounds_toArray, List.set_cons_zero, List.set_cons_succ]
                refine held_c (i := 14) (by kernel_rfl) (by rfl) (fun K hK => ?_)
                simp only [List.getElem?_toArray, List.getElem?_cons_zero, List.getElem?_cons_succ]
                go_simp
                have hb4 : Below w.heap.size w (w4.drew.alloc (.cells #[natV y] 43)) := (hb3.drew).alloc hb3s _
                refine hK.out _ _ ⟨(HC4.out _ hb4).1, (HC4.out _ hb4).2, trivial⟩ (fun hHeld => ?_)
                clear hK K
                try simp only [Act.put, List.setIfInBounds_toArray, List.set_cons_zero, List.set_cons_succ]
                refine held_c (i := 15) (by kernel_rfl) (by rfl) (fun K hK => ?_)
                simp only [List.getElem?_toArray, List.getElem?_cons_zero, List.getElem?_cons_succ]
                have HV5 := ((HV4.out.drew).alloc (.cells #[natV y] 43)).2
                refine step_app_wp rfl (.tmp 109) (.tmp 123) 45 rfl w.heap.size 43 i0 (.int .u64 0) 1 8 Try.underlying45 hi0 hz0 hz1 hz2 rfl (by decide) (.slice (some ⟨g2, 0, none⟩) ys.length cap2) ys.length (ys.map natV) rfl HV5 ⟨w4.heap.size, 0, none⟩ 1 1 [natV y] rfl rfl (cell_one_new _ _ _) (by intro u hu; simp at hu; subst hu; rfl) (by have := HL.out.2; unfold maxLen; omega) (by have := HL.out.2; omega) (by simp; omega) ?_
                intro A2 cap4 w5 hown2 hg2 hat2
                have hb5 : Below w.heap.size w w5 := hb4.grown hg2 (by simp; omega) (fun g hg => (HV5.lt g hg).1)
                have hK2 : Keeps [g2] w4 w5 := (((Keeps.refl [g2] w4).drew).alloc (.cells #[natV y] 43)).grown hg2 (fun g hg => .inl (by simp [Value.ownBlock] at hg; simp [hg]))
                have hU5 : HasU w.heap.size (.slice (some ⟨g3, 0, none⟩) (xs ++ [x]).length cap3) (xs ++ [x]) w5 := HU1.out.keeps hK2 (fun g hg hg' => by
                  simp at hg'; subst hg'; exact HAP4.out g hg rfl)
                have hV6 : HasU w.heap.size (.slice A2 (ys.length + 1) cap4) (ys ++ [y]) w5 := HasU.of hown2 (by simp) (by simp) (by intro h; injection h with _ h; omega)
                have hap5 : ∀ g, (Value.slice (some ⟨g3, 0, none⟩) (xs ++ [x]).length cap3).ownBlock = some g → (Value.slice A2 (ys.length + 1) cap4).ownBlock ≠ some g := by
                  intro g hg hg2'
                  have hl2 := (HU1.out.2.lt g hg).2
                  rcases hat2 with e | e
                  · rw [e] at hg2'; exact HAP4.out g hg hg2'
                  · rw [e] at hg2'; injection hg2' with hg2'; simp at hg2'; omega
                have H5 := Lib.hid (And.intro hU5 (And.intro hV6 hap5))
                refine hK.out _ _ ⟨(HC4.out _ hb5).1, (HC4.out _ hb5).2, trivial⟩ (fun hHeld => ?_)
                clear hK K hown2 hg2 hat2 hK2 hU5 hV6 hap5 HV5
                try simp only [Act.put, List.setIfInBounds_toArray, List.set_cons_zero, List.set_cons_succ]
                refine held_w (i := 16) (d := some 7) (v := ?_) rfl (by kernel_rfl) (by kernel_rfl) (by kernel_rfl) (fun _ _ _ h => h) (by rfl) ?_ hHeld ?_
                rotate_left
                · intro w' hSw; obtain ⟨q0, q1, q2⟩ := hSw; simp only [List.getElem?_toArray, List.getElem?_cons_zero, List.getElem?_cons_succ]; go_simp; try with_reducible rfl
                try simp only [Act.put, List.setIfInBounds_toArray, List.set_cons_zero, List.set_cons_succ]
                refine wpAnyH_done (by kernel_rfl) ?_ _
                clear q1 q2 q3 q4 sk sD sX sY
                go_wp2_with fail
                go_roundw
                case rel => exact ⟨k + 1, by omega, by go_num, by rw [HPN.out], by rw [HTT.out.1]; have h := H5.out.1; simp only [List.length_append, List.length_cons, List.length_nil, Nat.zero_add] at h; exact h, by rw [HTT.out.2]; exact H5.out.2.1, H5.out.2.2, hb5⟩
                case measure => simp [intOf]; omega
              --uncut
            · obtain rfl : k = r.length := by have := HLN.out; omega
              have l1 := tsF_length (t : Int) 0 r
              have l2 := vsF_length v r
              rw [← l1, List.take_length] at hts
              rw [← l2, List.take_length] at hvs
              have hrr : rises (t : Int) r := by have h := HR.out; rw [HLR.out] at h; exact h.2.2
              have hbt := tsF_lt r (t : Int) 0 (by omega) (by omega) (by omega) (by omega) hrr
              have hbv := vsF_lt r v
              have hl5 : r.length ≤ 5000 := by have := HLN.out; omega
              have hm1 : (tsF (t : Int) 0 r).length ≤ 100000 := by omega
              have hm2 : (vsF v r).length ≤ 100000 := by omega
              have hdl := dTail_len (t : Int) v r
              have hr0 : r ≠ [] := fun h => by rw [h] at hlt; have := HLN.out; rw [h] at this; simp at this; omega
              have hdt : dTail (t : Int) v r = UInt8.ofNat (bestTo (tsF (t : Int) 0 r) 40) :: UInt8.ofNat (bestTo (vsF v r) 40) :: packB (pairB (bestTo (tsF (t : Int) 0 r) 40) (bestTo (vsF v r) 40) (tsF (t : Int) 0 r) (vsF v r)) := by
                unfold dTail; rw [if_neg hr0]
              have HDT := Lib.hid (And.intro hdt hdl)
              obtain ⟨a, ha⟩ : ∃ a, bestTo (tsF (t : Int) 0 r) 40 = a := ⟨_, rfl⟩
              obtain ⟨b, hbb⟩ : ∃ b, bestTo (vsF v r) 40 = b := ⟨_, rfl⟩
              have ha40 : a ≤ 40 := by rw [← ha]; exact bestTo_le _ _
              have hb40 : b ≤ 40 := by rw [← hbb]; exact bestTo_le _ _
              have hlx : ((r.length + 1 : Nat) : Int) = (l.length : Int) := by have := HLN.out; omega
              obtain ⟨X, hX⟩ : ∃ X, tsF (t : Int) 0 r = X := ⟨_, rfl⟩
              obtain ⟨Y, hY⟩ : ∃ Y, vsF v r = Y := ⟨_, rfl⟩
              rw [hX] at hts hbt hm1 ha l1
              rw [hY] at hvs hbv hm2 hbb l2
              have HXY := Lib.hid (And.intro hX hY)
              have HAB := Lib.hid (And.intro ha hbb)
              have hpe := pairB_length a b X Y (by omega)
              have hpc1 := costN_le X a ha40
              have hpc2 := costN_le Y b hb40
              have hpl : (pairB a b X Y).length ≤ 880000 := by omega
              obtain ⟨g1, c1, rfl, hg1, u1⟩ := hts.at hbt
              obtain ⟨g2, c2, rfl, hg2, u2⟩ := hvs.at hbv
              rw [l1] at u1 hts ⊢
              rw [l2] at u2 hvs ⊢
              clear hdt hdl hX hY hpe hpc1 hpc2 hap
              have hdc : decide ((r.length : Int) + 1 < (l.length : Int)) = false := by simp; have := HLN.out; omega
              have hbs := hb.size
              have HL5 := Lib.hid (And.intro hl5 (And.intro hpl (And.intro hm1 hm2)))
              clear hl5 hpl hm1 hm2 hlt hk hlx
              go_wp2_with fail
              refine (refBest_c _ _ _ X _ HL5.out.2.2.1 u1).mono ?_
              rintro e w4 ⟨rfl, hb4⟩
              rw [ha]
              go_wp2_with fail
              refine (refBest_c _ _ _ Y _ HL5.out.2.2.2 (u2.below hb4)).mono ?_
              rintro e w5 ⟨rfl, hb5⟩
              rw [hbb]
              go_wp2_with fail
              refine (refNew_c _).mono ?_
              rintro e w6 ⟨rfl, rfl⟩
              have hb45 := below2 hb4 hb5 hb4.size
              have hB5 := below2 hb hb45 hb.size
              have hs5 := hB5.size
              have h1' : HasU w.heap.size (.slice (some ⟨g1, 0, none⟩) r.length c1) X (w5.alloc (.cells #[.slice none 0 0] 57)) := (hts.keeps (Keeps.below (F := []) hb45) (by simp)).alloc _
              have h2' : HasU w.heap.size (.slice (some ⟨g2, 0, none⟩) r.length c2) Y (w5.alloc (.cells #[.slice none 0 0] 57)) := (hvs.keeps (Keeps.below (F := []) hb45) (by simp)).alloc _
              have hv0 := isV_new w5 w.heap.size hs5
              have hB6 := hB5.alloc hs5 (.cells #[.slice none 0 0] 57)
              obtain ⟨p, hp⟩ : ∃ p, w5.heap.size = p := ⟨_, rfl⟩
              rw [hp] at hv0 ⊢
              generalize w5.alloc (.cells #[.slice none 0 0] 57) = w6 at *
              have H0 := Lib.hid (And.intro h1' (And.intro h2' (And.intro hv0 hB6)))
              clear h1' h2' hv0 hB6 hts hvs u1 u2 hb4 hb5 hb45 hB5 hs5 hp hb hbs hbo ha hbb
              obtain ⟨wo, rfl⟩ : ∃ wo : World, wo = wr := ⟨_, rfl⟩
              go_wp2_with fail
              go_loopw [14] (fun c wq => ∃ k : Nat, k ≤ r.length ∧ c = .int .i64 k ∧ (∃ F, IsV w.heap.size p (pairB a b (X.take k) (Y.take k)) F wq) ∧ HasU w.heap.size (.slice (some ⟨g1, 0, none⟩) r.length c1) X wq ∧ HasU w.heap.size (.slice (some ⟨g2, 0, none⟩) r.length c2) Y wq ∧ Below w.heap.size w wq) (fun c _ => r.length - (intOf c).toNat)
              case atStart => exact ⟨0, Nat.zero_le _, rfl, ⟨_, H0.out.2.2.1⟩, H0.out.1, H0.out.2.1, H0.out.2.2.2⟩
              case round =>
                obtain ⟨k, hk, rfl, ⟨F, hv⟩, hu1, hu2, hb⟩ := hrel
                have hbs := hb.size
                by_cases hlt : k < r.length
                · have hk5 : k + 1 ≤ 5000 := by have := HL5.out.1; omega
                  have hk1 : k < X.length := by omega
                  have hk2 : k < Y.length := by omega
                  have hx := hbt X[k] (List.getElem_mem hk1)
                  have hy := hbv Y[k] (List.getElem_mem hk2)
                  have hcx := hasU_cell hu1 k hk1
                  have hcy := fun W (h : HasU w.heap.size (.slice (some ⟨g2, 0, none⟩) r.length c2) Y W) => hasU_cell h k hk2
                  have hpt := pairB_take a b X Y k hk1 hk2
                  obtain ⟨x, hxx⟩ : ∃ x, X[k] = x := ⟨_, rfl⟩
                  obtain ⟨y, hyy⟩ : ∃ y, Y[k] = y := ⟨_, rfl⟩
                  rw [hxx] at hx hcx hpt
                  rw [hyy] at hy hpt hcy
                  have hlk : (pairB a b (X.take k) (Y.take k)).length ≤ 1760000 := by
                    rw [pairB_length _ _ _ _ (by simp; omega)]
                    have h1 := costN_le (X.take k) a ha40
                    have h2 := costN_le (Y.take k) b hb40
                    simp only [List.length_take] at h1 h2
                    have := HL5.out.1
                    omega
                  have hcl := code_le x a ha40
                  have e1 : riceL (pairB a b (X.take k) (Y.take k)) x (a : Int) = pairB a b (X.take k) (Y.take k) ++ code x a := by
                    unfold riceL; rw [if_pos (by unfold riceE; rw [if_neg (by omega)])]; simp
                  have e2 : riceL (pairB a b (X.take k) (Y.take k) ++ code x a) y (b : Int) = pairB a b (X.take (k + 1)) (Y.take (k + 1)) := by
                    rw [hpt]; unfold riceL; rw [if_pos (by unfold riceE; rw [if_neg (by omega)])]; simp
                  have R1 := refRice_c w.heap.size p _ F x (a : Int) wr hx (by omega) hv
                  rw [e1] at R1
                  have R1 := Lib.hid R1
                  have E2 := Lib.hid e2
                  have HCY := Lib.hid hcy
                  have HLK := Lib.hid (show (pairB a b (X.take k) (Y.take k) ++ code x a).length ≤ 4294967000 by rw [List.length_append]; omega)
                  clear e1 e2 hpt hxx hyy hcy hlk hcl
                  go_wp2_with fail
                  refine R1.out.mono ?_
                  rintro e W1 ⟨rfl, F1, hv1, hK1, hF1⟩
                  have out : ∀ (W : World) (l' : List Bool) (G : List Nat), IsV w.heap.size p l' G W → ∀ (v : Value) (Z : List Nat), HasU w.heap.size v Z W → ∀ k, v.ownBlock = some k → k ∉ G := fun W l' G hV v Z hU k hk hm => by
                    obtain ⟨cs0, h0⟩ := hasU_type hU hk
                    rcases (isV_cells hV k hm).2 with ⟨_, cs, hc⟩ | ⟨cs, hc⟩
                    · exact ne_type h0 hc (by decide) rfl
                    · exact ne_type h0 hc (by decide) rfl
                  have hu1' := hu1.keeps hK1 (out _ _ _ hv _ _ hu1)
                  have hu2' := hu2.keeps hK1 (out _ _ _ hv _ _ hu2)
                  have hcy1 := HCY.out _ hu2'
                  have R2 := refRice_c w.heap.size p _ F1 y (b : Int) W1 hy HLK.out hv1
                  rw [E2.out] at R2
                  have R2 := Lib.hid R2
                  have H1 := Lib.hid (And.intro hK1 (And.intro hF1 (And.intro hv1 (And.intro hu1' (And.intro hu2' (And.intro out hv))))))
                  clear hK1 hF1 hv1 hu1' hu2' out hv hu1 hu2 hcx R1
                  go_wp2_with fail
                  refine R2.out.mono ?_
                  rintro e W2 ⟨rfl, F2, hv2, hK2, hF2⟩
                  go_wp2_with fail
                  go_roundw
                  case rel =>
                    obtain ⟨hK1, hF1, hv1, hu1', hu2', out, hv⟩ := H1.out
                    have hK := hK1.trans hK2 hF1
                    exact ⟨k + 1, by omega, by go_num, ⟨F2, hv2⟩, hu1'.keeps hK2 (out _ _ _ hv1 _ _ hu1'), hu2'.keeps hK2 (out _ _ _ hv1 _ _ hu2'), hb.trans (hK.to hbs (fun f hf => (isV_cells hv f hf).1))⟩
                  case measure => simp [intOf]; omega
                · obtain rfl : k = r.length := by omega
                  rw [show X.take r.length = X by rw [← l1, List.take_length], show Y.take r.length = Y by rw [← l2, List.take_length]] at hv
                  have hbl := packB_length (pairB a b X Y)
                  have hpl := HL5.out.2.1
                  have hlu := uv_len10 (n := l.length) (by omega)
                  have hlt' := uv_len10 (n := t) (by omega)
                  have hli := iv_len v r3 r4
                  have hs1 : ¬ 9223372036854775807 < (uv l.length).length + ((uv t).length + (iv v).length) + 2 := by omega
                  have hs2 : ¬ 9223372036854775807 < (uv l.length).length + ((uv t).length + (iv v).length) + 2 + (packB (pairB a b X Y)).length := by omega
                  have hs3 : ¬ 9223372036854775807 < (uv l.length).length + ((uv t).length + ((iv v).length + 2)) + (packB (pairB a b X Y)).length := by omega
                  have wa : IntKind.u8.wrap (a : Int) = (a : Int) := by rw [IntKind.wrap_u8]; omega
                  have wb : IntKind.u8.wrap (b : Int) = (b : Int) := by rw [IntKind.wrap_u8]; omega
                  have HBY := Lib.hid (fun (wx : World) (h : Below wr.heap.size wr wx) => refBytes_c w.heap.size p _ F wx (Nat.le_trans HL5.out.2.1 (by decide)) (isV_keeps hv (Keeps.below (F := []) h) (fun k _ hm => by simp at hm)))
                  clear hbl hlu hlt' hli hv hu1 hu2 hpl
                  go_wp2_with fail
                  refine wp_region_held_drew (S := fun wx => Below wr.heap.size wr wx) (by kernel_rfl) (Below.refl _ wr).drew (fun hHeld => ?_)
                  refine wpAnyH_gen (fun Wc hWc => ?_)
                  rw [← hWc] at hHeld
                  clear hWc
                  refine held_w (i := 0) (d := some 151) (v := ?_) rfl (by kernel_rfl) (by kernel_rfl) (by kernel_rfl) (fun _ _ _ h => h) (by rfl) ?_ hHeld ?_
                  rotate_left
                  · intro w' hSw; obtain ⟨q0⟩ := hSw; simp only [List.getElem?_toArray, List.getElem?_cons_zero, List.getElem?_cons_succ]; go_simp; try with_reducible rfl
                  try simp only [Act.put, List.setIfInBounds_toArray, List.set_cons_zero, List.set_cons_succ]
                  refine held_w (i := 1) (d := some 152) (v := ?_) rfl (by kernel_rfl) (by kernel_rfl) (by kernel_rfl) (fun _ _ _ h => h) (by rfl) ?_ hHeld ?_
                  rotate_left
                  · intro w' hSw; obtain ⟨q0⟩ := hSw; simp only [List.getElem?_toArray, List.getElem?_cons_zero, List.getElem?_cons_succ]; go_simp; try with_reducible rfl
                  try simp only [Act.put, List.setIfInBounds_toArray, List.set_cons_zero, List.set_cons_succ]
                  refine held_w (i := 2) (d := some 153) (v := ?_) rfl (by kernel_rfl) (by kernel_rfl) (by kernel_rfl) (fun _ _ _ h => h) (by rfl) ?_ hHeld ?_
                  rotate_left
                  · intro w' hSw; obtain ⟨q0⟩ := hSw; simp only [List.getElem?_toArray, List.getElem?_cons_zero, List.getElem?_cons_succ]; go_simp; try with_reducible rfl
                  try simp only [Act.put, List.setIfInBounds_toArray, List.set_cons_zero, List.set_cons_succ]
                  refine held_w (i := 3) (d := some 154) (v := ?_) rfl (by kernel_rfl) (by kernel_rfl) (by kernel_rfl) (fun _ _ _ h => h) (by rfl) ?_ hHeld ?_
                  rotate_left
                  · intro w' hSw; obtain ⟨q0⟩ := hSw; simp only [List.getElem?_toArray, List.getElem?_cons_zero, List.getElem?_cons_succ]; go_simp; try with_reducible rfl
                  try simp only [Act.put, List.setIfInBounds_toArray, List.set_cons_zero, List.set_cons_succ]
                  refine held_w (i := 4) (d := some 155) (v := ?_) rfl (by kernel_rfl) (by kernel_rfl) (by kernel_rfl) (fun _ _ _ h => h) (by rfl) ?_ hHeld ?_
                  rotate_left
                  · intro w' hSw; obtain ⟨q0⟩ := hSw; simp only [List.getElem?_toArray, List.getElem?_cons_zero, List.getElem?_cons_succ]; go_simp; try with_reducible rfl
                  try simp only [Act.put, List.setIfInBounds_toArray, List.set_cons_zero, List.set_cons_succ]
                  refine held_w (i := 8) (d := some 159) (v := ?_) rfl (by kernel_rfl) (by kernel_rfl) (by kernel_rfl) (fun _ _ _ h => h) (by rfl) ?_ hHeld ?_
                  rotate_left
                  · intro w' hSw; obtain ⟨q0⟩ := hSw; simp only [List.getElem?_toArray, List.getElem?_cons_zero, List.getElem?_cons_succ]; go_simp; try with_reducible rfl
                  try simp only [Act.put, List.setIfInBounds_toArray, List.set_cons_zero, List.set_cons_succ]
                  refine held_many (rs := [5, 9]) (by kernel_rfl) (by simp) ⟨?_, ?_, trivial⟩
                  · refine ⟨by rfl, fun K hK => ?_⟩
                    simp only [List.getElem?_toArray, List.getElem?_cons_zero, List.getElem?_cons_succ]
                    go_simp
                    have hq := blk_new Wc (.cells #[.int .u8 (a : Int), .int .u8 (b : Int)] 5)
                    have hcv := conv_two_at (P := Try.prog) 39 9 5 Try.underlying39 Try.underlying5 Try.underlying9 hq
                    refine hK.out _ _ (hHeld.alloc hHeld.size _) (fun hHeld => ?_)
                    clear hK K
                    refine wpAnyH_gen (fun Wd hWd => ?_)
                    rw [← hWd] at hHeld hq hcv
                    clear hWd
                    try simp only [Act.put, List.setIfInBounds_toArray, List.set_cons_zero, List.set_cons_succ]
                    refine held_many (rs := [6, 9]) (by kernel_rfl) (by simp) ⟨?_, ?_, trivial⟩
                    · refine ⟨by rfl, fun K hK => ?_⟩
                      simp only [List.getElem?_toArray, List.getElem?_cons_zero, List.getElem?_cons_succ]
                      go_simp
                      refine hK.out _ _ hHeld (fun hHeld => ?_)
                      clear hK K
                      try simp only [Act.put, List.setIfInBounds_toArray, List.set_cons_zero, List.set_cons_succ]
                      refine held_w (i := 7) (d := some 158) (v := ?_) rfl (by kernel_rfl) (by kernel_rfl) (by kernel_rfl) (fun _ _ _ h => h) (by rfl) ?_ hHeld ?_
                      rotate_left
                      · intro w' hSw; obtain ⟨q0⟩ := hSw; simp only [List.getElem?_toArray, List.getElem?_cons_zero, List.getElem?_cons_succ]; go_simp; try with_reducible rfl
                      try simp only [Act.put, List.setIfInBounds_toArray, List.set_cons_zero, List.set_cons_succ]
                      refine held_c (i := 9) (by kernel_rfl) (by rfl) (fun K hK => ?_)
                      simp only [List.getElem?_toArray, List.getElem?_cons_zero, List.getElem?_cons_succ]
                      go_simp
                      refine (HBY.out _ hHeld).mono ?_
                      rintro e Wc ⟨rfl, hk⟩
                      have hq := (hk.block _ (lt_of_block hq)).trans hq
                      have hcv := conv_two_at (P := Try.prog) 39 9 5 Try.underlying39 Try.underlying5 Try.underlying9 hq
                      refine hK.out _ _ (below2 hHeld hk hHeld.size) (fun hHeld => ?_)
                      clear hK K
                      try simp only [Act.put, List.setIfInBounds_toArray, List.set_cons_zero, List.set_cons_succ]
                      refine held_w (i := 10) (d := some 161) (v := ?_) rfl (by kernel_rfl) (by kernel_rfl) (by kernel_rfl) (fun _ _ _ h => h) (by rfl) ?_ hHeld ?_
                      rotate_left
                      · intro w' hSw; obtain ⟨q0⟩ := hSw; simp only [List.getElem?_toArray, List.getElem?_cons_zero, List.getElem?_cons_succ]; go_simp; try with_reducible rfl
                      try simp only [Act.put, List.setIfInBounds_toArray, List.set_cons_zero, List.set_cons_succ]
                      refine held_w (i := 11) (d := some 2) (v := ?_) rfl (by kernel_rfl) (by kernel_rfl) (by kernel_rfl) (fun _ _ _ h => h) (by rfl) ?_ hHeld ?_
                      rotate_left
                      · intro w' hSw; obtain ⟨q0⟩ := hSw; simp only [List.getElem?_toArray, List.getElem?_cons_zero, List.getElem?_cons_succ]; go_simp; try with_reducible rfl
                      try simp only [Act.put, List.setIfInBounds_toArray, List.set_cons_zero, List.set_cons_succ]
                      refine held_w (i := 12) (d := some 3) (v := ?_) rfl (by kernel_rfl) (by kernel_rfl) (by kernel_rfl) (fun _ _ _ h => h) (by rfl) ?_ hHeld ?_
                      rotate_left
                      · intro w' hSw; obtain ⟨q0⟩ := hSw; simp only [List.getElem?_toArray, List.getElem?_cons_zero, List.getElem?_cons_succ]; go_simp; try with_reducible rfl
                      try simp only [Act.put, List.setIfInBounds_toArray, List.set_cons_zero, List.set_cons_succ]
                      refine wpAnyH_done (by kernel_rfl) ?_ _
                      go_wp2_with fail
                      go_ret2
                      refine ⟨ret_se ?_, below2 hb hHeld hb.size⟩
                      rw [HT3.out, HE.out, HDT.out.1, HXY.out.1, HXY.out.2, HAB.out.1, HAB.out.2]
                    · refine ⟨by rfl, fun K hK => ?_⟩
                      simp only [List.getElem?_toArray, List.getElem?_cons_zero, List.getElem?_cons_succ]
                      go_simp
                      refine (HBY.out _ hHeld).mono ?_
                      rintro e Wc ⟨rfl, hk⟩
                      have hq := (hk.block _ (lt_of_block hq)).trans hq
                      have hcv := conv_two_at (P := Try.prog) 39 9 5 Try.underlying39 Try.underlying5 Try.underlying9 hq
                      refine hK.out _ _ (below2 hHeld hk hHeld.size) (fun hHeld => ?_)
                      clear hK K
                      try simp only [Act.put, List.setIfInBounds_toArray, List.set_cons_zero, List.set_cons_succ]
                      refine held_c (i := 6) (by kernel_rfl) (by rfl) (fun K hK => ?_)
                      simp only [List.getElem?_toArray, List.getElem?_cons_zero, List.getElem?_cons_succ]
                      go_simp
                      refine hK.out _ _ hHeld (fun hHeld => ?_)
                      clear hK K
                      try simp only [Act.put, List.setIfInBounds_toArray, List.set_cons_zero, List.set_cons_succ]
                      refine held_w (i := 7) (d := some 158) (v := ?_) rfl (by kernel_rfl) (by kernel_rfl) (by kernel_rfl) (fun _ _ _ h => h) (by rfl) ?_ hHeld ?_
                      rotate_left
                      · intro w' hSw; obtain ⟨q0⟩ := hSw; simp only [List.getElem?_toArray, List.getElem?_cons_zero, List.getElem?_cons_succ]; go_simp; try with_reducible rfl
                      try simp only [Act.put, List.setIfInBounds_toArray, List.set_cons_zero, List.set_cons_succ]
                      refine held_w (i := 10) (d := some 161) (v := ?_) rfl (by kernel_rfl) (by kernel_rfl) (by kernel_rfl) (fun _ _ _ h => h) (by rfl) ?_ hHeld ?_
                      rotate_left
                      · intro w' hSw; obtain ⟨q0⟩ := hSw; simp only [List.getElem?_toArray, List.getElem?_cons_zero, List.getElem?_cons_succ]; go_simp; try with_reducible rfl
                      try simp only [Act.put, List.setIfInBounds_toArray, List.set_cons_zero, List.set_cons_succ]
                      refine held_w (i := 11) (d := some 2) (v := ?_) rfl (by kernel_rfl) (by kernel_rfl) (by kernel_rfl) (fun _ _ _ h => h) (by rfl) ?_ hHeld ?_
                      rotate_left
                      · intro w' hSw; obtain ⟨q0⟩ := hSw; simp only [List.getElem?_toArray, List.getElem?_cons_zero, List.getElem?_cons_succ]; go_simp; try with_reducible rfl
                      try simp only [Act.put, List.setIfInBounds_toArray, List.set_cons_zero, List.set_cons_succ]
                      refine held_w (i := 12) (d := some 3) (v := ?_) rfl (by kernel_rfl) (by kernel_rfl) (by kernel_rfl) (fun _ _ _ h => h) (by rfl) ?_ hHeld ?_
                      rotate_left
                      · intro w' hSw; obtain ⟨q0⟩ := hSw; simp only [List.getElem?_toArray, List.getElem?_cons_zero, List.getElem?_cons_succ]; go_simp; try with_reducible rfl
                      try simp only [Act.put, List.setIfInBounds_toArray, List.set_cons_zero, List.set_cons_succ]
                      refine wpAnyH_done (by kernel_rfl) ?_ _
                      go_wp2_with fail
                      go_ret2
                      refine ⟨ret_se ?_, below2 hb hHeld hb.size⟩
                      rw [HT3.out, HE.out, HDT.out.1, HXY.out.1, HXY.out.2, HAB.out.1, HAB.out.2]
                  · refine ⟨by rfl, fun K hK => ?_⟩
                    simp only [List.getElem?_toArray, List.getElem?_cons_zero, List.getElem?_cons_succ]
                    go_simp
                    refine (HBY.out _ hHeld).mono ?_
                    rintro e Wc ⟨rfl, hk⟩
                    refine hK.out _ _ (below2 hHeld hk hHeld.size) (fun hHeld => ?_)
                    clear hK K
                    try simp only [Act.put, List.setIfInBounds_toArray, List.set_cons_zero, List.set_cons_succ]
                    refine held_c (i := 5) (by kernel_rfl) (by rfl) (fun K hK => ?_)
                    simp only [List.getElem?_toArray, List.getElem?_cons_zero, List.getElem?_cons_succ]
                    go_simp
                    have hq := blk_new Wc (.cells #[.int .u8 (a : Int), .int .u8 (b : Int)] 5)
                    have hcv := conv_two_at (P := Try.prog) 39 9 5 Try.underlying39 Try.underlying5 Try.underlying9 hq
                    refine hK.out _ _ (hHeld.alloc hHeld.size _) (fun hHeld => ?_)
                    clear hK K
                    refine wpAnyH_gen (fun Wd hWd => ?_)
                    rw [← hWd] at hHeld hq hcv
                    clear hWd
                    try simp only [Act.put, List.setIfInBounds_toArray, List.set_cons_zero, List.set_cons_succ]
                    refine held_c (i := 6) (by kernel_rfl) (by rfl) (fun K hK => ?_)
                    simp only [List.getElem?_toArray, List.getElem?_cons_zero, List.getElem?_cons_succ]
                    go_simp
                    refine hK.out _ _ hHeld (fun hHeld => ?_)
                    clear hK K
                    try simp only [Act.put, List.setIfInBounds_toArray, List.set_cons_zero, List.set_cons_succ]
                    refine held_w (i := 7) (d := some 158) (v := ?_) rfl (by kernel_rfl) (by kernel_rfl) (by kernel_rfl) (fun _ _ _ h => h) (by rfl) ?_ hHeld ?_
                    rotate_left
                    · intro w' hSw; obtain ⟨q0⟩ := hSw; simp only [List.getElem?_toArray, List.getElem?_cons_zero, List.getElem?_cons_succ]; go_simp; try with_reducible rfl
                    try simp only [Act.put, List.setIfInBounds_toArray, List.set_cons_zero, List.set_cons_succ]
                    refine held_w (i := 10) (d := some 161) (v := ?_) rfl (by kernel_rfl) (by kernel_rfl) (by kernel_rfl) (fun _ _ _ h => h) (by rfl) ?_ hHeld ?_
                    rotate_left
                    · intro w' hSw; obtain ⟨q0⟩ := hSw; simp only [List.getElem?_toArray, List.getElem?_cons_zero, List.getElem?_cons_succ]; go_simp; try with_reducible rfl
                    try simp only [Act.put, List.setIfInBounds_toArray, List.set_cons_zero, List.set_cons_succ]
                    refine held_w (i := 11) (d := some 2) (v := ?_) rfl (by kernel_rfl) (by kernel_rfl) (by kernel_rfl) (fun _ _ _ h => h) (by rfl) ?_ hHeld ?_
                    rotate_left
                    · intro w' hSw; obtain ⟨q0⟩ := hSw; simp only [List.getElem?_toArray, List.getElem?_cons_zero, List.getElem?_cons_succ]; go_simp; try with_reducible rfl
                    try simp only [Act.put, List.setIfInBounds_toArray, List.set_cons_zero, List.set_cons_succ]
                    refine held_w (i := 12) (d := some 3) (v := ?_) rfl (by kernel_rfl) (by kernel_rfl) (by kernel_rfl) (fun _ _ _ h => h) (by rfl) ?_ hHeld ?_
                    rotate_left
                    · intro w' hSw; obtain ⟨q0⟩ := hSw; simp only [List.getElem?_toArray, List.getElem?_cons_zero, List.getElem?_cons_succ]; go_simp; try with_reducible rfl
                    try simp only [Act.put, List.setIfInBounds_toArray, List.set_cons_zero, List.set_cons_succ]
                    refine wpAnyH_done (by kernel_rfl) ?_ _
                    go_wp2_with fail
                    go_ret2
                    refine ⟨ret_se ?_, below2 hb hHeld hb.size⟩
                    rw [HT3.out, HE.out, HDT.out.1, HXY.out.1, HXY.out.2, HAB.out.1, HAB.out.2]
end Go.Proofs.Yteaelcimlmckjaa
