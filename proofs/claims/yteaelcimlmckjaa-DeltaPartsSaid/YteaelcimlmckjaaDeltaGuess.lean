/-
  Layer 3 (delta): what the program reads without looking whether it may be, as plain functions; held against the document's samples it is the document's. It names no program.
-/
import Derived.Test.YteaelcimlmckjaaDeltaTake
namespace Go.Proofs.Yteaelcimlmckjaa
open Go.RowKit

/-- The numbers that are read, pair by pair, as far as they go. -/
def toldL (a b : Nat) : Nat → List Bool → List (Nat × Nat)
  | 0, _ => []
  | m + 1, bs =>
    if decE bs a ≠ 0 then [] else if decE (bs.drop (decN bs a)) b ≠ 0 then []
    else (decV bs a, decV (bs.drop (decN bs a)) b) :: toldL a b m (bs.drop (decN bs a + decN (bs.drop (decN bs a)) b))
/-- Samples out of numbers, in 64 bits. -/
def lenG (t v d : Int) : List (Nat × Nat) → List Smp
  | [] => []
  | x :: ps => (wrap64 (t + wrap64 (d + unfold x.1)), wrap64 (v + unfold x.2)) :: lenG (wrap64 (t + wrap64 (d + unfold x.1))) (wrap64 (v + unfold x.2)) (wrap64 (d + unfold x.1)) ps
def toldS (s : List UInt8) (m : Nat) : List (Nat × Nat) := if s.length < 2 then [] else toldL (s.getD 0 0).toNat (s.getD 1 0).toNat m (bitsOf (s.drop 2))
def gD (s : List UInt8) : Option (List Smp) :=
  if (getU s 0).2.2 ≠ 0 ∨ 5000 < (getU s 0).1 then none
  else if (getU s 0).1 = 0 then some []
  else if (getU s (getU s 0).2.1).2.2 ≠ 0 ∨ (getI s (getU s (getU s 0).2.1).2.1).2.2 ≠ 0 then none
  else some ((wrap64 (getU s (getU s 0).2.1).1, (getI s (getU s (getU s 0).2.1).2.1).1) ::
    lenG (wrap64 (getU s (getU s 0).2.1).1) (getI s (getU s (getU s 0).2.1).2.1).1 0 (toldS (s.drop (getI s (getU s (getU s 0).2.1).2.1).2.1.toNat) ((getU s 0).1.toNat - 1)))
def decG (s : List UInt8) : Option (List Smp) :=
  match gD s with
  | none => none
  | some l => if dE l = 0 ∧ dEnc l = s then some l else none
theorem wrap64_id (x : Int) (h1 : -9223372036854775808 ≤ x) (h2 : x ≤ 9223372036854775807) : wrap64 x = x := by unfold wrap64; omega
theorem lenG_back (r : List Smp) : ∀ (pt pv pd : Int), 0 ≤ pt → pt < 1099511627776 → 0 ≤ pd → pd ≤ 1099511627776 → rises pt r → vals64 r →
    lenG pt pv pd ((tsF pt pd r).zip (vsF pv r)) = r := by
  induction r with
  | nil => intro pt pv pd _ _ _ _ _ _; rfl
  | cons s r ih =>
    intro pt pv pd h1 h2 h3 h4 hr hv
    obtain ⟨r1, r2, r3⟩ := hr
    obtain ⟨v1, v2⟩ := hv s (by simp)
    simp only [tsF, vsF, List.zip_cons_cons, lenG]
    rw [unfold_toNat, unfold_toNat, show pd + (s.1 - pt - pd) = s.1 - pt by omega, wrap64_id (s.1 - pt) (by omega) (by omega), show pt + (s.1 - pt) = s.1 by omega, wrap64_id s.1 (by omega) (by omega), wrap_back _ _ v1 v2]
    rw [ih s.1 s.2 (s.1 - pt) (by omega) r2 (by omega) (by omega) r3 (fun q hq => hv q (by simp [hq]))]
theorem toldL_back (a b : Nat) (ha : a ≤ 40) (hb : b ≤ 40) (z : List Bool) (r : List Smp) : ∀ (pt pv pd : Int), 0 ≤ pt → 0 ≤ pd → pd ≤ 1099511627776 → rises pt r →
    toldL a b r.length (pairB a b (tsF pt pd r) (vsF pv r) ++ z) = (tsF pt pd r).zip (vsF pv r) := by
  induction r with
  | nil => intro pt pv pd _ _ _ _; rfl
  | cons s r ih =>
    intro pt pv pd h0 hd0 hd1 hr
    obtain ⟨r1, r2, r3⟩ := hr
    have hx : (fold (s.1 - pt - pd)).toNat < 18446744073709551616 := by
      have := fold_range (s.1 - pt - pd) (by omega) (by omega); omega
    have hy : (fold (wrap64 (s.2 - pv))).toNat < 18446744073709551616 := by
      have h := wrap_range (s.2 - pv)
      have := fold_range _ h.1 h.2; omega
    have hbits : pairB a b (tsF pt pd (s :: r)) (vsF pv (s :: r)) ++ z = code (fold (s.1 - pt - pd)).toNat a ++ (code (fold (wrap64 (s.2 - pv))).toNat b ++ (pairB a b (tsF s.1 (s.1 - pt) r) (vsF s.2 r) ++ z)) := by
      simp [tsF, vsF, pairB]
    rw [hbits]
    obtain ⟨d1, d2, d3⟩ := dec_code (fold (s.1 - pt - pd)).toNat a (code (fold (wrap64 (s.2 - pv))).toNat b ++ (pairB a b (tsF s.1 (s.1 - pt) r) (vsF s.2 r) ++ z)) hx ha
    obtain ⟨e1, e2, e3⟩ := dec_code (fold (wrap64 (s.2 - pv))).toNat b (pairB a b (tsF s.1 (s.1 - pt) r) (vsF s.2 r) ++ z) hy hb
    have hdrop : (code (fold (s.1 - pt - pd)).toNat a ++ (code (fold (wrap64 (s.2 - pv))).toNat b ++ (pairB a b (tsF s.1 (s.1 - pt) r) (vsF s.2 r) ++ z))).drop (code (fold (s.1 - pt - pd)).toNat a).length = code (fold (wrap64 (s.2 - pv))).toNat b ++ (pairB a b (tsF s.1 (s.1 - pt) r) (vsF s.2 r) ++ z) := List.drop_left' rfl
    show toldL a b (r.length + 1) _ = _
    unfold toldL
    rw [d1, d2, d3, hdrop, e1, e2, e3, ← List.drop_drop, hdrop, List.drop_left' rfl, if_neg (by simp), if_neg (by simp), ih s.1 s.2 (s.1 - pt) (by omega) (by omega) (by omega) r3]
    rfl
theorem gD_back (l : List Smp) (he : dE l = 0) (hv : vals64 l) : gD (dEnc l) = some l := by
  have hlen : l.length ≤ 5000 := by unfold dE at he; split at he <;> omega
  have hris : rises (-1) l := by unfold dE at he; rw [if_neg (by omega)] at he; split at he; assumption; omega
  have henc : dEnc l = uv l.length ++ dBody l := by unfold dEnc; rw [if_pos he]
  rw [henc]
  cases l with
  | nil =>
    have g := getU_uv [] (dBody []) 0 (by omega)
    simp only [List.nil_append, List.length_nil] at g
    have g' : getU (uv 0 ++ dBody []) 0 = (((0 : Nat) : Int), (((0 : Nat) : Int) + ((uv 0).length : Int)), 0) := g
    show gD (uv 0 ++ dBody []) = _
    unfold gD
    rw [g']
    rfl
  | cons s r =>
    obtain ⟨r1, r2, r3⟩ := hris
    obtain ⟨v1, v2⟩ := hv s (by simp)
    have hvr : vals64 r := fun q hq => hv q (by simp [hq])
    obtain ⟨n, hn⟩ : ∃ n, n = (s :: r).length := ⟨_, rfl⟩
    have hn1 : n = r.length + 1 := by rw [hn]; rfl
    rw [← hn] at hlen ⊢
    obtain ⟨u, hu⟩ : ∃ u, u = uv n := ⟨_, rfl⟩
    obtain ⟨tt, htt⟩ : ∃ tt, tt = uv s.1.toNat := ⟨_, rfl⟩
    obtain ⟨vv, hvv⟩ : ∃ vv, vv = iv s.2 := ⟨_, rfl⟩
    have hs : uv n ++ dBody (s :: r) = u ++ (tt ++ (vv ++ dTail s.1 s.2 r)) := by rw [hu, htt, hvv]; rfl
    have g1 := getU_uv [] (tt ++ (vv ++ dTail s.1 s.2 r)) n (by omega)
    have g2 := getU_uv u (vv ++ dTail s.1 s.2 r) s.1.toNat (by omega)
    have g3 := getI_iv (u ++ tt) (dTail s.1 s.2 r) s.2 v1 v2
    rw [← hu, List.nil_append, List.length_nil] at g1
    rw [← htt] at g2
    rw [← hvv, List.append_assoc, List.length_append] at g3
    have e1 : getU (u ++ (tt ++ (vv ++ dTail s.1 s.2 r))) 0 = ((n : Int), (u.length : Int), 0) := by
      have h : getU (u ++ (tt ++ (vv ++ dTail s.1 s.2 r))) ((0 : Nat) : Int) = _ := g1
      rw [show (0 : Int) = ((0 : Nat) : Int) from rfl, h]; simp
    have e2 : getU (u ++ (tt ++ (vv ++ dTail s.1 s.2 r))) (u.length : Int) = ((s.1.toNat : Int), ((u.length + tt.length : Nat) : Int), 0) := by rw [g2]; simp
    have e3 : getI (u ++ (tt ++ (vv ++ dTail s.1 s.2 r))) ((u.length + tt.length : Nat) : Int) = (s.2, ((u.length + tt.length + vv.length : Nat) : Int), 0) := by rw [g3]; simp
    have ht : (s.1.toNat : Int) = s.1 := by omega
    rw [hs]
    unfold gD
    simp only [e1, e2, e3, ht]
    rw [if_neg (by omega), if_neg (by omega), if_neg (by omega), wrap64_id s.1 (by omega) (by omega), Int.toNat_natCast, Int.toNat_natCast]
    have hd : (u ++ (tt ++ (vv ++ dTail s.1 s.2 r))).drop (u.length + tt.length + vv.length) = dTail s.1 s.2 r := by
      have : u ++ (tt ++ (vv ++ dTail s.1 s.2 r)) = (u ++ (tt ++ vv)) ++ dTail s.1 s.2 r := by simp
      rw [this]
      exact List.drop_left' (by simp; omega)
    rw [hd, show n - 1 = r.length by omega]
    have ht2 : toldS (dTail s.1 s.2 r) r.length = (tsF s.1 0 r).zip (vsF s.2 r) := by
      by_cases hr0 : r = []
      · subst hr0; simp [toldS, dTail, tsF]
      · obtain ⟨a, ha⟩ : ∃ a, a = bestTo (tsF s.1 0 r) 40 := ⟨_, rfl⟩
        obtain ⟨b, hb⟩ : ∃ b, b = bestTo (vsF s.2 r) 40 := ⟨_, rfl⟩
        have ha40 : a ≤ 40 := by rw [ha]; exact bestTo_le _ _
        have hb40 : b ≤ 40 := by rw [hb]; exact bestTo_le _ _
        have htail : dTail s.1 s.2 r = UInt8.ofNat a :: UInt8.ofNat b :: packB (pairB a b (tsF s.1 0 r) (vsF s.2 r)) := by
          unfold dTail; rw [if_neg hr0, ← ha, ← hb]
        rw [htail]
        unfold toldS
        rw [if_neg (by simp)]
        have hga : (List.getD (UInt8.ofNat a :: UInt8.ofNat b :: packB (pairB a b (tsF s.1 0 r) (vsF s.2 r))) 0 0).toNat = a := bytes_getD a ha40
        have hgb : (List.getD (UInt8.ofNat a :: UInt8.ofNat b :: packB (pairB a b (tsF s.1 0 r) (vsF s.2 r))) 1 0).toNat = b := bytes_getD b hb40
        rw [hga, hgb]
        show toldL a b r.length (bitsOf (packB (pairB a b (tsF s.1 0 r) (vsF s.2 r)))) = _
        rw [bitsOf_packB]
        exact toldL_back a b ha40 hb40 _ r s.1 s.2 0 (by omega) (by omega) (by omega) r3
    rw [ht2, lenG_back r s.1 s.2 0 (by omega) (by omega) (by omega) (by omega) r3 hvr]
theorem lenG_vals (ps : List (Nat × Nat)) : ∀ (t v d : Int), vals64 (lenG t v d ps) := by
  induction ps with
  | nil => intro t v d s hs; simp [lenG] at hs
  | cons x ps ih =>
    intro t v d s hs
    rcases List.mem_cons.1 hs with rfl | hs
    · exact wrap_range _
    · exact ih _ _ _ s hs
theorem gD_vals {s : List UInt8} {l : List Smp} (h : gD s = some l) : vals64 l := by
  unfold gD at h
  obtain ⟨n, a1, e1, h1⟩ : ∃ n a e, getU s 0 = (n, a, e) := ⟨_, _, _, rfl⟩
  obtain ⟨t, a2, e2, h2⟩ : ∃ n a e, getU s a1 = (n, a, e) := ⟨_, _, _, rfl⟩
  obtain ⟨v, a3, e3, h3⟩ : ∃ n a e, getI s a2 = (n, a, e) := ⟨_, _, _, rfl⟩
  simp only [h1, h2, h3] at h
  have hv := getI_vals h3
  split at h
  · cases h
  · split at h
    · injection h with h; subst h; exact fun q hq => by simp at hq
    · split at h
      · cases h
      · injection h with h; subst h
        intro q hq
        rcases List.mem_cons.1 hq with rfl | hq
        · exact hv
        · exact lenG_vals _ _ _ _ q hq
/-- It is the document's. -/
theorem decG_eq (s : List UInt8) : decG s = decD s := by
  have to : ∀ l, decG s = some l → decD s = some l := fun l h => by
    unfold decG at h
    split at h
    · cases h
    · rename_i l' hg
      split at h
      · rename_i hc
        injection h with h; subst h
        have := decD_back l' hc.1 (gD_vals hg)
        rwa [hc.2] at this
      · cases h
  have fro : ∀ l, decD s = some l → decG s = some l := fun l h => by
    obtain ⟨h1, h2⟩ := decD_only h
    have hv : vals64 l := by
      unfold decD at h
      split at h
      · cases h
      · rename_i l' hr
        split at h
        · injection h with h; subst h; exact (readD_vals hr).1
        · cases h
    have hg := gD_back l h1 hv
    rw [h2] at hg
    unfold decG
    rw [hg]
    exact if_pos ⟨h1, h2⟩
  cases hd : decD s with
  | some l => exact fro l hd
  | none =>
    cases hg : decG s with
    | none => rfl
    | some l => rw [to l hg] at hd; cases hd
end Go.Proofs.Yteaelcimlmckjaa
