/-
  Layer 3 (delta): the document's answers as plain functions: samples to bytes, bytes to samples, and that they lead back. They name no program.
-/
import Derived.Test.YteaelcimlmckjaaZigPure
import Derived.Test.YteaelcimlmckjaaBest
namespace Go.Proofs.Yteaelcimlmckjaa
open Go.RowKit

/-- A sample: its time, its value. -/
abbrev Smp := Int × Int
/-- Each time is above the one ahead, and below MaxTime. -/
def rises (p : Int) : List Smp → Prop
  | [] => True
  | s :: r => p < s.1 ∧ s.1 < 1099511627776 ∧ rises s.1 r
instance decRises : ∀ (p : Int) (l : List Smp), Decidable (rises p l)
  | _, [] => inferInstanceAs (Decidable True)
  | p, s :: r =>
    have := decRises s.1 r
    inferInstanceAs (Decidable (p < s.1 ∧ s.1 < 1099511627776 ∧ rises s.1 r))
def dE (l : List Smp) : Int := if 5000 < l.length then 1 else if rises (-1) l then 0 else 30
/-- The numbers of the times: how much longer each distance is than the one ahead. -/
def tsF (pt pd : Int) : List Smp → List Nat
  | [] => []
  | s :: r => (fold (s.1 - pt - pd)).toNat :: tsF s.1 (s.1 - pt) r
/-- The numbers of the values. -/
def vsF (pv : Int) : List Smp → List Nat
  | [] => []
  | s :: r => (fold (wrap64 (s.2 - pv))).toNat :: vsF s.2 r
theorem tsF_length (pt pd : Int) (l : List Smp) : (tsF pt pd l).length = l.length := by
  induction l generalizing pt pd with
  | nil => rfl
  | cons s r ih => simp [tsF, ih]
theorem vsF_length (pv : Int) (l : List Smp) : (vsF pv l).length = l.length := by
  induction l generalizing pv with
  | nil => rfl
  | cons s r ih => simp [vsF, ih]
def pairB (a b : Nat) : List Nat → List Nat → List Bool
  | x :: xs, y :: ys => code x a ++ (code y b ++ pairB a b xs ys)
  | _, _ => []
/-- What stands behind the count, the first time and the first value. -/
def dTail (t v : Int) (r : List Smp) : List UInt8 :=
  if r = [] then [] else
    UInt8.ofNat (bestTo (tsF t 0 r) 40) :: UInt8.ofNat (bestTo (vsF v r) 40) :: packB (pairB (bestTo (tsF t 0 r) 40) (bestTo (vsF v r) 40) (tsF t 0 r) (vsF v r))
def dBody : List Smp → List UInt8
  | [] => []
  | s :: r => uv s.1.toNat ++ (iv s.2 ++ dTail s.1 s.2 r)
def dEnc (l : List Smp) : List UInt8 := if dE l = 0 then uv l.length ++ dBody l else []
/-- Sample by sample out of the bits. -/
def stepsD (a b : Nat) (pt pv pd : Int) (bs : List Bool) : Nat → Option (List Smp)
  | 0 => some []
  | m + 1 =>
    if decE bs a ≠ 0 ∨ decE (bs.drop (decN bs a)) b ≠ 0 then none
    else if 1099511627776 < unfold (decV bs a) ∨ unfold (decV bs a) < -1099511627776 then none
    else if pd + unfold (decV bs a) < 1 ∨ 1099511627776 < pd + unfold (decV bs a) ∨ 1099511627776 ≤ pt + (pd + unfold (decV bs a)) then none
    else (stepsD a b (pt + (pd + unfold (decV bs a))) (wrap64 (pv + unfold (decV (bs.drop (decN bs a)) b))) (pd + unfold (decV bs a)) (bs.drop (decN bs a + decN (bs.drop (decN bs a)) b)) m).map
      (fun r => (pt + (pd + unfold (decV bs a)), wrap64 (pv + unfold (decV (bs.drop (decN bs a)) b))) :: r)
/-- Samples out of bytes, without looking whether they are encoded as they should be. -/
def readD (s : List UInt8) : Option (List Smp) :=
  if (getU s 0).2.2 ≠ 0 ∨ 5000 < (getU s 0).1 then none
  else if (getU s 0).1 = 0 then some []
  else if (getU s (getU s 0).2.1).2.2 ≠ 0 ∨ (getI s (getU s (getU s 0).2.1).2.1).2.2 ≠ 0 ∨ 1099511627776 ≤ (getU s (getU s 0).2.1).1 then none
  else if (getU s 0).1 = 1 then some [((getU s (getU s 0).2.1).1, (getI s (getU s (getU s 0).2.1).2.1).1)]
  else if (s.length : Int) < (getI s (getU s (getU s 0).2.1).2.1).2.1 + 2 then none
  else (stepsD ((s.getD (getI s (getU s (getU s 0).2.1).2.1).2.1.toNat 0).toNat) ((s.getD ((getI s (getU s (getU s 0).2.1).2.1).2.1.toNat + 1) 0).toNat) (getU s (getU s 0).2.1).1 (getI s (getU s (getU s 0).2.1).2.1).1 0
      (bitsOf (s.drop ((getI s (getU s (getU s 0).2.1).2.1).2.1.toNat + 2))) ((getU s 0).1.toNat - 1)).map
    (fun r => ((getU s (getU s 0).2.1).1, (getI s (getU s (getU s 0).2.1).2.1).1) :: r)
def decD (s : List UInt8) : Option (List Smp) :=
  match readD s with
  | none => none
  | some l => if dE l = 0 ∧ dEnc l = s then some l else none
/-- Values of 64 bits. -/
def vals64 (l : List Smp) : Prop := ∀ s, s ∈ l → -9223372036854775808 ≤ s.2 ∧ s.2 ≤ 9223372036854775807
theorem wrap_back (v pv : Int) (h1 : -9223372036854775808 ≤ v) (h2 : v ≤ 9223372036854775807) : wrap64 (pv + wrap64 (v - pv)) = v := by
  unfold wrap64; omega
theorem wrap_range (x : Int) : -9223372036854775808 ≤ wrap64 x ∧ wrap64 x ≤ 9223372036854775807 := by
  unfold wrap64; omega
theorem fold_toNat (x : Int) : ((fold x).toNat : Int) = fold x := by
  have : 0 ≤ fold x := by unfold fold; split <;> omega
  omega
theorem unfold_toNat (x : Int) : unfold ((fold x).toNat : Int) = x := by rw [fold_toNat, unfold_fold]
theorem stepsD_back (a b : Nat) (ha : a ≤ 40) (hb : b ≤ 40) (z : List Bool) (r : List Smp) (pt pv pd : Int) (h0 : 0 ≤ pt) (hd0 : 0 ≤ pd) (hd1 : pd ≤ 1099511627776) (hr : rises pt r) (hv : vals64 r) :
    stepsD a b pt pv pd (pairB a b (tsF pt pd r) (vsF pv r) ++ z) r.length = some r := by
  induction r generalizing pt pv pd with
  | nil => rfl
  | cons s r ih =>
    obtain ⟨r1, r2, r3⟩ := hr
    obtain ⟨v1, v2⟩ := hv s (by simp)
    have hx : (fold (s.1 - pt - pd)).toNat < 18446744073709551616 := by
      have := fold_range (s.1 - pt - pd) (by omega) (by omega); omega
    have hy : (fold (wrap64 (s.2 - pv))).toNat < 18446744073709551616 := by
      have h := wrap_range (s.2 - pv)
      have := fold_range _ h.1 h.2; omega
    have hbits : pairB a b (tsF pt pd (s :: r)) (vsF pv (s :: r)) ++ z = code (fold (s.1 - pt - pd)).toNat a ++ (code (fold (wrap64 (s.2 - pv))).toNat b ++ (pairB a b (tsF s.1 (s.1 - pt) r) (vsF s.2 r) ++ z)) := by
      simp [tsF, vsF, pairB]
    rw [hbits]
    obtain ⟨d1, d2, d3⟩ := dec_code (fold (s.1 - pt - pd)).toNat a (code (fold (wrap64 (s.2 - pv))).toNat b ++ (pairB a b (tsF s.1 (s.1 - pt) r) (vsF s.2 r) ++ z)) hx ha
    obtain ⟨e1, e2, e3⟩ := dec_code (fold (wrap64 (s.2 - pv))).toNat b (pairB a b (tsF s.1 (s.1 - pt) r) (vsF s.2 r) ++ z) hy hb
    have hdrop : (code (fold (s.1 - pt - pd)).toNat a ++ (code (fold (wrap64 (s.2 - pv))).toNat b ++ (pairB a b (tsF s.1 (s.1 - pt) r) (vsF s.2 r) ++ z))).drop (code (fold (s.1 - pt - pd)).toNat a).length = code (fold (wrap64 (s.2 - pv))).toNat b ++ (pairB a b (tsF s.1 (s.1 - pt) r) (vsF s.2 r) ++ z) := List.drop_left' rfl
    show stepsD a b pt pv pd _ (r.length + 1) = _
    unfold stepsD
    rw [d1, d2, d3, hdrop, e1, e2, e3, unfold_toNat, unfold_toNat, ← List.drop_drop, hdrop, List.drop_left' rfl, wrap_back _ _ v1 v2]
    have hih := ih s.1 s.2 (s.1 - pt) (by omega) (by omega) (by omega) r3 (fun q hq => hv q (by simp [hq]))
    rw [if_neg (by simp), if_neg (by omega), if_neg (by omega), show pd + (s.1 - pt - pd) = s.1 - pt by omega, show pt + (s.1 - pt) = s.1 by omega, hih]
    rfl
theorem tail_getD (p r : List UInt8) (k : Nat) : (p ++ r).getD (p.length + k) 0 = r.getD k 0 := by
  rw [List.getD_eq_getElem?_getD, List.getD_eq_getElem?_getD, List.getElem?_append_right (by omega), show p.length + k - p.length = k by omega]
theorem bytes_getD (n : Nat) (h : n ≤ 40) : (UInt8.ofNat n).toNat = n := by rw [UInt8.toNat_ofNat']; exact Nat.mod_eq_of_lt (by omega)
/-- What is encoded is read back. -/
theorem readD_back (l : List Smp) (he : dE l = 0) (hv : vals64 l) : readD (dEnc l) = some l := by
  have hlen : l.length ≤ 5000 := by unfold dE at he; split at he <;> omega
  have hris : rises (-1) l := by unfold dE at he; rw [if_neg (by omega)] at he; split at he; assumption; omega
  have henc : dEnc l = uv l.length ++ dBody l := by unfold dEnc; rw [if_pos he]
  rw [henc]
  cases l with
  | nil =>
    have g := getU_uv [] (dBody []) 0 (by omega)
    simp only [List.nil_append, List.length_nil] at g
    have g' : getU (uv 0 ++ dBody []) 0 = (((0 : Nat) : Int), (((0 : Nat) : Int) + ((uv 0).length : Int)), 0) := g
    show readD (uv 0 ++ dBody []) = _
    unfold readD
    rw [g']
    rfl
  | cons s r =>
    obtain ⟨r1, r2, r3⟩ := hris
    obtain ⟨v1, v2⟩ := hv s (by simp)
    have hvr : vals64 r := fun q hq => hv q (by simp [hq])
    obtain ⟨n, hn⟩ : ∃ n, n = (s :: r).length := ⟨_, rfl⟩
    have hn1 : n = r.length + 1 := by rw [hn]; rfl
    rw [← hn] at hlen ⊢
    obtain ⟨u, hu⟩ : ∃ u, u = uv n := ⟨_, rfl⟩
    obtain ⟨tt, htt⟩ : ∃ tt, tt = uv s.1.toNat := ⟨_, rfl⟩
    obtain ⟨vv, hvv⟩ : ∃ vv, vv = iv s.2 := ⟨_, rfl⟩
    have hs : uv n ++ dBody (s :: r) = u ++ (tt ++ (vv ++ dTail s.1 s.2 r)) := by rw [hu, htt, hvv]; rfl
    have g1 := getU_uv [] (tt ++ (vv ++ dTail s.1 s.2 r)) n (by omega)
    have g2 := getU_uv u (vv ++ dTail s.1 s.2 r) s.1.toNat (by omega)
    have g3 := getI_iv (u ++ tt) (dTail s.1 s.2 r) s.2 v1 v2
    rw [← hu, List.nil_append, List.length_nil] at g1
    rw [← htt] at g2
    rw [← hvv, List.append_assoc, List.length_append] at g3
    have e1 : getU (u ++ (tt ++ (vv ++ dTail s.1 s.2 r))) 0 = ((n : Int), (u.length : Int), 0) := by
      have h : getU (u ++ (tt ++ (vv ++ dTail s.1 s.2 r))) ((0 : Nat) : Int) = _ := g1
      rw [show (0 : Int) = ((0 : Nat) : Int) from rfl, h]; simp
    have e2 : getU (u ++ (tt ++ (vv ++ dTail s.1 s.2 r))) (u.length : Int) = ((s.1.toNat : Int), ((u.length + tt.length : Nat) : Int), 0) := by rw [g2]; simp
    have e3 : getI (u ++ (tt ++ (vv ++ dTail s.1 s.2 r))) ((u.length + tt.length : Nat) : Int) = (s.2, ((u.length + tt.length + vv.length : Nat) : Int), 0) := by rw [g3]; simp
    have ht : (s.1.toNat : Int) = s.1 := by omega
    rw [hs]
    unfold readD
    simp only [e1, e2, e3, ht]
    rw [if_neg (by omega), if_neg (by omega), if_neg (by omega)]
    by_cases hr0 : r = []
    · subst hr0
      rw [if_pos (by simp at hn1; omega)]
    · have hrl : 0 < r.length := List.length_pos_iff.2 hr0
      rw [if_neg (by omega)]
      obtain ⟨a, ha⟩ : ∃ a, a = bestTo (tsF s.1 0 r) 40 := ⟨_, rfl⟩
      obtain ⟨b, hb⟩ : ∃ b, b = bestTo (vsF s.2 r) 40 := ⟨_, rfl⟩
      have ha40 : a ≤ 40 := by rw [ha]; exact bestTo_le _ _
      have hb40 : b ≤ 40 := by rw [hb]; exact bestTo_le _ _
      have htail : dTail s.1 s.2 r = UInt8.ofNat a :: UInt8.ofNat b :: packB (pairB a b (tsF s.1 0 r) (vsF s.2 r)) := by
        unfold dTail; rw [if_neg hr0, ← ha, ← hb]
      obtain ⟨p, hp⟩ : ∃ p, p = u ++ (tt ++ vv) := ⟨_, rfl⟩
      have hpl : p.length = u.length + tt.length + vv.length := by rw [hp]; simp; omega
      have hsp : u ++ (tt ++ (vv ++ dTail s.1 s.2 r)) = p ++ (UInt8.ofNat a :: UInt8.ofNat b :: packB (pairB a b (tsF s.1 0 r) (vsF s.2 r))) := by rw [hp, htail]; simp
      rw [hsp, ← hpl, Int.toNat_natCast]
      have h0 := tail_getD p (UInt8.ofNat a :: UInt8.ofNat b :: packB (pairB a b (tsF s.1 0 r) (vsF s.2 r))) 0
      have h1 := tail_getD p (UInt8.ofNat a :: UInt8.ofNat b :: packB (pairB a b (tsF s.1 0 r) (vsF s.2 r))) 1
      rw [Nat.add_zero] at h0
      rw [h0, h1]
      have hd : (p ++ (UInt8.ofNat a :: UInt8.ofNat b :: packB (pairB a b (tsF s.1 0 r) (vsF s.2 r)))).drop (p.length + 2) = packB (pairB a b (tsF s.1 0 r) (vsF s.2 r)) := by
        rw [← List.drop_drop, List.drop_left' rfl]; rfl
      rw [hd, bitsOf_packB, if_neg (by simp; omega)]
      have hst := stepsD_back a b ha40 hb40 (List.replicate (8 * (((pairB a b (tsF s.1 0 r) (vsF s.2 r)).length + 7) / 8) - (pairB a b (tsF s.1 0 r) (vsF s.2 r)).length) false) r s.1 s.2 0 (by omega) (by omega) (by omega) r3 hvr
      have hga : (List.getD (UInt8.ofNat a :: UInt8.ofNat b :: packB (pairB a b (tsF s.1 0 r) (vsF s.2 r))) 0 0).toNat = a := bytes_getD a ha40
      have hgb : (List.getD (UInt8.ofNat a :: UInt8.ofNat b :: packB (pairB a b (tsF s.1 0 r) (vsF s.2 r))) 1 0).toNat = b := bytes_getD b hb40
      rw [hga, hgb, Int.toNat_natCast, show n - 1 = r.length by omega, hst]
      rfl
theorem decD_back (l : List Smp) (he : dE l = 0) (hv : vals64 l) : decD (dEnc l) = some l := by
  unfold decD
  rw [readD_back l he hv]
  exact if_pos ⟨he, rfl⟩
theorem decD_only {s : List UInt8} {l : List Smp} (h : decD s = some l) : dE l = 0 ∧ dEnc l = s := by
  unfold decD at h
  split at h
  · cases h
  · split at h
    · rename_i hh
      injection h with h
      subst h
      exact hh
    · cases h
theorem pairB_length (a b : Nat) (xs ys : List Nat) (h : xs.length = ys.length) : (pairB a b xs ys).length = costN xs a + costN ys b := by
  induction xs generalizing ys with
  | nil => cases ys with
    | nil => rfl
    | cons y ys => simp at h
  | cons x xs ih => cases ys with
    | nil => simp at h
    | cons y ys =>
      have := ih ys (by simpa using h)
      simp only [pairB, List.length_append, costN, List.map_cons, List.sum_cons] at this ⊢
      omega
/-- How long an encoding is. -/
theorem dEnc_length (s : Smp) (r : List Smp) (he : dE (s :: r) = 0) : (dEnc (s :: r)).length = (uv (r.length + 1)).length + (uv s.1.toNat).length + (iv s.2).length +
    (if r = [] then 0 else 2 + (costN (tsF s.1 0 r) (bestTo (tsF s.1 0 r) 40) + costN (vsF s.2 r) (bestTo (vsF s.2 r) 40) + 7) / 8) := by
  unfold dEnc
  rw [if_pos he]
  show (uv (r.length + 1) ++ (uv s.1.toNat ++ (iv s.2 ++ dTail s.1 s.2 r))).length = _
  unfold dTail
  by_cases hr : r = []
  · rw [if_pos hr, if_pos hr]; simp; omega
  · rw [if_neg hr, if_neg hr]
    simp only [List.length_append, List.length_cons, packB_length]
    rw [pairB_length _ _ _ _ (by rw [tsF_length, vsF_length])]
    omega
theorem dEnc_most (l : List Smp) (he : dE l = 0) (hv : vals64 l) : (dEnc l).length ≤ 25 + 22 * l.length ∧ 0 < (dEnc l).length := by
  have hlen : l.length ≤ 5000 := by unfold dE at he; split at he <;> omega
  have hris : rises (-1) l := by unfold dE at he; rw [if_neg (by omega)] at he; split at he; assumption; omega
  cases l with
  | nil =>
    unfold dEnc
    rw [if_pos he]
    have h := uv_len_le 0 0 (by omega)
    have h2 := uv_pos 0
    simp [dBody]; omega
  | cons s r =>
    have hl := dEnc_length s r he
    obtain ⟨r1, r2, r3⟩ := hris
    obtain ⟨v1, v2⟩ := hv s (by simp)
    have h1 := uv_len_le 1 (r.length + 1) (by simp at hlen; omega)
    have h2 := uv_len_le 5 s.1.toNat (by omega)
    have h3 := iv_len s.2 v1 v2
    have h4 := uv_pos (r.length + 1)
    have c1 := costN_le (tsF s.1 0 r) (bestTo (tsF s.1 0 r) 40) (bestTo_le _ _)
    have c2 := costN_le (vsF s.2 r) (bestTo (vsF s.2 r) 40) (bestTo_le _ _)
    rw [tsF_length] at c1
    rw [vsF_length] at c2
    rw [List.length_cons]
    split at hl <;> omega
/-- Values that are all more by one number have the same numbers behind the first. -/
theorem vsF_moved (pv by_ : Int) (r : List Smp) : vsF (wrap64 (pv + by_)) (r.map fun s => (s.1, wrap64 (s.2 + by_))) = vsF pv r := by
  induction r generalizing pv with
  | nil => rfl
  | cons s r ih =>
    have e : wrap64 (wrap64 (s.2 + by_) - wrap64 (pv + by_)) = wrap64 (s.2 - pv) := by unfold wrap64; omega
    simp only [List.map_cons, vsF]
    rw [e, ih]
theorem tsF_moved (pt pd by_ : Int) (r : List Smp) : tsF pt pd (r.map fun s => (s.1, wrap64 (s.2 + by_))) = tsF pt pd r := by
  induction r generalizing pt pd with
  | nil => rfl
  | cons s r ih =>
    simp only [List.map_cons, tsF]
    rw [ih]
theorem rises_moved (p by_ : Int) (r : List Smp) : rises p (r.map fun s => (s.1, wrap64 (s.2 + by_))) ↔ rises p r := by
  induction r generalizing p with
  | nil => exact Iff.rfl
  | cons s r ih =>
    simp only [List.map_cons, rises]
    rw [ih]
theorem dE_moved (by_ : Int) (l : List Smp) : dE (l.map fun s => (s.1, wrap64 (s.2 + by_))) = dE l := by
  unfold dE
  rw [List.length_map]
  by_cases h : rises (-1) l
  · rw [if_pos h, if_pos ((rises_moved _ _ _).2 h)]
  · rw [if_neg h, if_neg (fun h' => h ((rises_moved _ _ _).1 h'))]
theorem iv_pos (n : Int) : 1 ≤ (iv n).length := uv_pos _
/-- They take no more bytes than the first value could. -/
theorem dEnc_moved (by_ : Int) (l : List Smp) (he : dE l = 0) (hv : vals64 l) :
    (dEnc l).length ≤ (dEnc (l.map fun s => (s.1, wrap64 (s.2 + by_)))).length + 9 ∧ (dEnc (l.map fun s => (s.1, wrap64 (s.2 + by_)))).length ≤ (dEnc l).length + 9 := by
  have he2 : dE (l.map fun s => (s.1, wrap64 (s.2 + by_))) = 0 := by rw [dE_moved]; exact he
  cases l with
  | nil => simp
  | cons s r =>
    have h1 := dEnc_length s r he
    have h2 := dEnc_length (s.1, wrap64 (s.2 + by_)) (r.map fun (s : Smp) => (s.1, wrap64 (s.2 + by_))) he2
    obtain ⟨v1, v2⟩ := hv s (by simp)
    have hw := wrap_range (s.2 + by_)
    have i1 := iv_len s.2 v1 v2
    have i2 := iv_len _ hw.1 hw.2
    have i3 := iv_pos s.2
    have i4 := iv_pos (wrap64 (s.2 + by_))
    simp only [tsF_moved, vsF_moved, List.length_map, List.map_eq_nil_iff] at h2
    rw [List.map_cons, h1, h2]
    split <;> omega
/-- What is read has values of 64 bits. -/
theorem stepsD_vals (a b : Nat) (m : Nat) : ∀ (pt pv pd : Int) (bs : List Bool) (r : List Smp), stepsD a b pt pv pd bs m = some r → vals64 r ∧ r.length = m := by
  induction m with
  | zero => intro pt pv pd bs r h; simp only [stepsD, Option.some.injEq] at h; subst h; exact ⟨fun s hs => by simp at hs, rfl⟩
  | succ m ih =>
    intro pt pv pd bs r h
    unfold stepsD at h
    split at h
    · cases h
    · split at h
      · cases h
      · split at h
        · cases h
        · obtain ⟨r', h1, rfl⟩ := Option.map_eq_some_iff.1 h
          obtain ⟨h2, h3⟩ := ih _ _ _ _ _ h1
          refine ⟨fun s hs => ?_, by simp [h3]⟩
          rcases List.mem_cons.1 hs with rfl | hs
          · exact wrap_range _
          · exact h2 s hs
/-- Samples of one distance and one value. -/
theorem tsF_even (d v : Int) (n : Nat) (pt pd : Int) (hpd : d = pd) (r : List Smp) (h : r = (List.range n).map fun (i : Nat) => (pt + ((i : Int) + 1) * d, v)) : tsF pt pd r = List.replicate n 0 := by
  subst hpd
  induction n generalizing pt r with
  | zero => subst h; rfl
  | succ n ih =>
    subst h
    rw [List.range_succ_eq_map, List.map_cons, List.map_map]
    simp only [tsF, Int.natCast_zero]
    have e1 : pt + (0 + 1) * d - pt - d = 0 := by simp; omega
    have e2 : pt + (0 + 1) * d - pt = d := by simp; omega
    rw [e1, e2, List.replicate_succ]
    have e3 := ih (pt + (0 + 1) * d) _ rfl
    have e4 : ((List.range n).map ((fun (i : Nat) => (pt + ((i : Int) + 1) * d, v)) ∘ Nat.succ)) = (List.range n).map fun (i : Nat) => (pt + (0 + 1) * d + ((i : Int) + 1) * d, v) := by
      apply List.map_congr_left
      intro i _
      simp only [Function.comp]
      congr 1
      rw [show ((Nat.succ i : Nat) : Int) = (i : Int) + 1 by omega, Int.add_mul, Int.add_mul, Int.add_mul]; omega
    rw [e4, e3]
    rfl
theorem vsF_same (v : Int) (r : List Smp) (h : ∀ s, s ∈ r → s.2 = v) : vsF v r = List.replicate r.length 0 := by
  induction r with
  | nil => rfl
  | cons s r ih =>
    have hs := h s (by simp)
    simp only [vsF, List.length_cons, List.replicate_succ]
    rw [hs, ih (fun q hq => h q (by simp [hq]))]
    congr 1
    rw [Int.sub_self, show wrap64 0 = 0 by unfold wrap64; omega]; unfold fold; simp
theorem costN_zeros (n : Nat) : costN (List.replicate n 0) 0 = n := by
  unfold costN
  induction n with
  | zero => rfl
  | succ n ih => rw [List.replicate_succ, List.map_cons, List.sum_cons, ih, code_length, if_neg (by simp)]; simp; omega
/-- n samples of one distance and one value. -/
def evenS (from_ d v : Int) (n : Nat) : List Smp := (List.range n).map fun (i : Nat) => (from_ + (i : Int) * d, v)
theorem evenS_length (f d v : Int) (n : Nat) : (evenS f d v n).length = n := by simp [evenS]
theorem evenS_cons (f d v : Int) (n : Nat) : evenS f d v (n + 1) = (f, v) :: evenS (f + d) d v n := by
  unfold evenS
  rw [List.range_succ_eq_map, List.map_cons, List.map_map]
  congr 1
  · simp
  · apply List.map_congr_left
    intro i _
    simp only [Function.comp]
    congr 1
    rw [show ((Nat.succ i : Nat) : Int) = (i : Int) + 1 by omega, Int.add_mul]; omega
theorem evenS_snoc (f d v : Int) (n : Nat) : evenS f d v (n + 1) = evenS f d v n ++ [(f + (n : Int) * d, v)] := by
  unfold evenS
  rw [List.range_succ, List.map_append]; rfl
theorem evenS_rises (f d v p : Int) (n : Nat) (hp : p < f) (hd : 1 ≤ d) (hf : f + (n : Int) * d ≤ 1099511627776) : rises p (evenS f d v n) := by
  induction n generalizing f p with
  | zero => exact True.intro
  | succ n ih =>
    rw [evenS_cons]
    have e : ((n + 1 : Nat) : Int) * d = (n : Int) * d + d := by rw [show ((n + 1 : Nat) : Int) = (n : Int) + 1 by omega, Int.add_mul]; omega
    rw [e] at hf
    have h0 : 0 ≤ (n : Int) * d := Int.mul_nonneg (by omega) (by omega)
    exact ⟨hp, by show f < _; omega, ih (f + d) f (by omega) (by omega)⟩
theorem evenS_vals (f d v : Int) (n : Nat) : ∀ s, s ∈ evenS f d v n → s.2 = v := by
  intro s hs
  obtain ⟨i, _, rfl⟩ := List.mem_map.1 hs
  rfl
theorem evenS_ts (f d v : Int) (n : Nat) : tsF f 0 (evenS (f + d) d v (n + 1)) = (fold d).toNat :: List.replicate n 0 := by
  rw [evenS_cons]
  simp only [tsF]
  have e1 : f + d - f - 0 = d := by omega
  have e2 : f + d - f = d := by omega
  rw [e1, e2, tsF_even d v n (f + d) d rfl _ ?_]
  unfold evenS
  apply List.map_congr_left
  intro i _
  congr 1
  rw [Int.add_mul]; omega
theorem dEnc_even (f d v : Int) (n : Nat) (h1 : 0 ≤ f) (h2 : f ≤ 65535) (h3 : 1 ≤ d) (h4 : d ≤ 65536) (h5 : n ≤ 255) (v1 : -9223372036854775808 ≤ v) (v2 : v ≤ 9223372036854775807) :
    dE (evenS f d v n) = 0 ∧ vals64 (evenS f d v n) ∧ 0 < (dEnc (evenS f d v n)).length ∧ (dEnc (evenS f d v n)).length ≤ 25 + 11 + n / 4 + 1 := by
  have hmul : (n : Int) * d ≤ 255 * 65536 := by
    have a : (n : Int) * d ≤ 255 * d := Int.mul_le_mul_of_nonneg_right (by omega) (by omega)
    omega
  have hr := evenS_rises f d v (-1) n (by omega) h3 (by omega)
  have he : dE (evenS f d v n) = 0 := by
    unfold dE
    rw [evenS_length, if_neg (by omega), if_pos hr]
  have hv : vals64 (evenS f d v n) := fun s hs => by rw [evenS_vals f d v n s hs]; exact ⟨v1, v2⟩
  have hm := dEnc_most _ he hv
  refine ⟨he, hv, hm.2, ?_⟩
  match n, h5 with
  | 0, _ => rw [evenS_length] at hm; omega
  | 1, _ =>
    rw [evenS_cons] at he ⊢
    have hl := dEnc_length (f, v) (evenS (f + d) d v 0) he
    rw [evenS_length] at hl
    have u1 : (uv (0 + 1)).length ≤ 1 := uv_len_le 0 1 (by omega)
    have u2 := uv_len_le 2 f.toNat (by omega)
    have u3 := iv_len v v1 v2
    have e0 : evenS (f + d) d v 0 = [] := rfl
    rw [if_pos e0] at hl
    simp only at hl
    omega
  | m + 2, h5 =>
    rw [evenS_cons] at he ⊢
    have hl := dEnc_length (f, v) (evenS (f + d) d v (m + 1)) he
    rw [evenS_length] at hl
    have u1 := uv_len_le 1 (m + 1 + 1) (by omega)
    have u2 := uv_len_le 2 f.toNat (by omega)
    have u3 := iv_len v v1 v2
    have hne : evenS (f + d) d v (m + 1) ≠ [] := by rw [evenS_cons]; simp
    rw [if_neg hne] at hl
    have hvs : vsF v (evenS (f + d) d v (m + 1)) = List.replicate (m + 1) 0 := by
      rw [vsF_same v _ (evenS_vals (f + d) d v (m + 1)), evenS_length]
    simp only [hvs, evenS_ts] at hl
    have c1 := (bestTo_least ((fold d).toNat :: List.replicate m 0) 40 0 (by omega)).1
    have c2 := (bestTo_least (List.replicate (m + 1) 0) 40 0 (by omega)).1
    rw [costN_zeros] at c2
    have c3 : costN ((fold d).toNat :: List.replicate m 0) 0 ≤ 88 + m := by
      have h := costN_zeros m
      have h2 := code_le (fold d).toNat 0 (by omega)
      simp only [costN, List.map_cons, List.sum_cons] at h ⊢
      omega
    omega
/-- What is read has values of 64 bits. -/
theorem getI_vals {s : List UInt8} {a v nx er : Int} (h : getI s a = (v, nx, er)) : -9223372036854775808 ≤ v ∧ v ≤ 9223372036854775807 := by
  obtain ⟨u, n', e', hu⟩ : ∃ u n' e', getU s a = (u, n', e') := ⟨_, _, _, rfl⟩
  have hr := getU_range hu
  unfold getI at h
  rw [hu] at h
  split at h
  · injection h with h _
    rw [← h]
    exact unfold_range u hr.1 hr.2.1
  · injection h with h _
    omega
theorem readD_vals {s : List UInt8} {l : List Smp} (h : readD s = some l) : vals64 l ∧ l.length ≤ 5000 := by
  unfold readD at h
  obtain ⟨n, a1, e1, h1⟩ : ∃ n a e, getU s 0 = (n, a, e) := ⟨_, _, _, rfl⟩
  obtain ⟨t, a2, e2, h2⟩ : ∃ n a e, getU s a1 = (n, a, e) := ⟨_, _, _, rfl⟩
  obtain ⟨v, a3, e3, h3⟩ : ∃ n a e, getI s a2 = (n, a, e) := ⟨_, _, _, rfl⟩
  simp only [h1, h2, h3] at h
  have hv := getI_vals h3
  have hr := getU_range h1
  split at h
  · cases h
  · split at h
    · injection h with h; subst h; exact ⟨fun q hq => by simp at hq, by simp⟩
    · split at h
      · cases h
      · split at h
        · injection h with h; subst h
          exact ⟨fun q hq => by simp at hq; subst hq; exact hv, by simp⟩
        · split at h
          · cases h
          · obtain ⟨r, hst, rfl⟩ := Option.map_eq_some_iff.1 h
            obtain ⟨k1, k2⟩ := stepsD_vals _ _ _ _ _ _ _ _ hst
            refine ⟨fun q hq => ?_, by simp; omega⟩
            rcases List.mem_cons.1 hq with rfl | hq
            · exact hv
            · exact k1 q hq
end Go.Proofs.Yteaelcimlmckjaa
