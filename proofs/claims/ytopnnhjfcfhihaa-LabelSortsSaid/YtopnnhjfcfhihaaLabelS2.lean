/-
  Layer 4 (label): what the document's Sort returns; all that was in memory stays.
-/
import Derived.Test.YtopnnhjfcfhihaaLabelS
namespace Go.Proofs.Ytopnnhjfcfhihaa
open Go.RowKit Go.Deep
attribute [local go_sem] str_size str_append str_toList str_get str_extract
set_option linter.unusedVariables false
set_option linter.unusedSimpArgs false
def InsD (d : Bool) (N : List Lab) (k : Nat) (out : List Lab) (x : Lab) : Prop := (d = true → N ++ out.drop k = ins out x) ∧ (d = false → N ++ ins (out.drop k) x = ins out x)
theorem InsD.start (out : List Lab) (x : Lab) : InsD false [] 0 out x := ⟨fun h => by (cases h), fun _ => rfl⟩
theorem InsD.here {N out : List Lab} {k : Nat} {x : Lab} (h : InsD false N k out x) (hk : k < out.length) (hl : ltN x out[k] = true) : InsD true ((N ++ [x]) ++ [out[k]]) (k + 1) out x :=
  ⟨fun _ => by rw [← h.2 rfl, List.drop_eq_getElem_cons hk, ins, if_pos hl]; simp, fun e => by cases e⟩
theorem InsD.far {N out : List Lab} {k : Nat} {x : Lab} (h : InsD false N k out x) (hk : k < out.length) (hl : ltN x out[k] = false) : InsD false (N ++ [out[k]]) (k + 1) out x :=
  ⟨fun e => by (cases e), fun _ => by rw [← h.2 rfl, List.drop_eq_getElem_cons hk, ins, if_neg (by rw [hl]; simp)]; simp⟩
theorem InsD.done {N out : List Lab} {k : Nat} {x : Lab} (h : InsD true N k out x) (hk : k < out.length) : InsD true (N ++ [out[k]]) (k + 1) out x :=
  ⟨fun _ => by rw [← h.1 rfl, List.drop_eq_getElem_cons hk]; simp, fun e => by cases e⟩
theorem InsD.end1 {N out : List Lab} {x : Lab} (h : InsD true N out.length out x) : N = ins out x := by have := h.1 rfl; simpa using this
theorem InsD.end0 {N out : List Lab} {x : Lab} (h : InsD false N out.length out x) : N ++ [x] = ins out x := by have := h.2 rfl; simpa [ins] using this
theorem sortL_mem (l : List Lab) (i : Nat) : ∀ x ∈ sortL (l.take i), x ∈ l := fun x hx => List.mem_of_mem_take ((sortL_stb _).mem hx)
set_option maxHeartbeats 2000000 in
theorem refSort_c (A : Option Addr) (len cap : Nat) (l : List Lab) (w : World) (hl : l.length ≤ 4096) (hA : LAt w A len l) (hz : ∀ x ∈ l, x.1.length ≤ 4096 ∧ x.2.length ≤ 4096) :
    Calls Try.prog 10 #[.slice A len cap] w fun e w' => (∃ A' cap', e = .returned (.slice A' l.length cap') ∧ LAt w' A' l.length (sortL l)) ∧ Below w.heap.size w w' := by
  have hle := hA.1
  subst hle
  obtain ⟨i0, hi0, hz0, hz1, hz2⟩ := info_parts lab_info
  go_enter Try.func10, Try.ntmps10
  go_wp2_with fail
  go_loopw [3, 4] (fun v c wr => ∃ i : Nat, i ≤ l.length ∧ c = .int .i64 i ∧ (∃ A' cp, v = .slice A' i cp ∧ Hid (LAt wr A' i (sortL (l.take i)))) ∧ Below w.heap.size w wr) (fun _ c _ => l.length - (intOf c).toNat)
  case atStart => exact ⟨0, Nat.zero_le _, rfl, ⟨_, _, rfl, LAt.nil _ _⟩, (Below.refl _ _).alloc (Nat.le_refl _) _⟩
  case round =>
    obtain ⟨i, hi, rfl, ⟨A', cp, rfl, HL⟩, hb⟩ := hrel
    obtain ⟨wp, rfl⟩ : ∃ wp : World, wp = wr := ⟨_, rfl⟩
    have hsz := hb.size
    by_cases hlt : i < l.length
    · obtain ⟨-, ad, rfl, h2, h3, h4⟩ := (hA.below hb).2 i hlt
      have hbn := hz _ (List.getElem_mem hlt)
      have hnext : sortL (l.take (i + 1)) = ins (sortL (l.take i)) l[i] := by rw [List.take_succ_eq_append_getElem hlt, sortL_snoc]
      have hmem := sortL_mem l i
      have hmem2 := sortL_mem l (i + 1)
      have hlen : (sortL (l.take i)).length = i := by rw [sortL_length, List.length_take]; omega
      have hlen2 : (sortL (l.take (i + 1))).length = i + 1 := by rw [sortL_length, List.length_take]; omega
      have hLo := HL.out
      obtain ⟨x, hx⟩ : ∃ x, l[i]'hlt = x := ⟨_, rfl⟩
      rw [hx] at h3 h4 hnext hbn
      obtain ⟨out, ho⟩ : ∃ o, sortL (l.take i) = o := ⟨_, rfl⟩
      rw [ho] at hLo hlen hmem hnext
      obtain ⟨z1, z2⟩ := hbn
      have HN := Lib.hid hnext
      have HM := Lib.hid hmem
      have HM2 := Lib.hid (And.intro hmem2 hlen2)
      clear hnext hmem hmem2 hx ho HL hlen2
      obtain ⟨n1, v1⟩ := x
      simp only at h3 h4 z1 z2
      go_wp2_with fail
      obtain ⟨wq, hwq⟩ : ∃ W, W = wp.alloc (.cells #[] 39) := ⟨_, rfl⟩
      have hbq : Below wp.heap.size wp wq := by rw [hwq]; exact (Below.refl _ _).alloc (Nat.le_refl _) _
      have hown0 : wq.ownsRow wp.heap.size 39 2 (.slice (some ⟨wp.heap.size, 0, none⟩) 0 0) 0 (labC []) := by
        rw [hwq]; exact World.ownsRow_made wp #[] 0 (Nat.le_refl _) (by unfold maxLen; omega) rfl
      rw [← hwq]
      clear hwq
      have HLo := Lib.hid hLo
      clear hLo
      go_loopw [5, 6, 7] (fun v e c wr => ∃ (k m : Nat) (d : Bool) (A2 : Option Addr) (cp2 : Nat) (N : List Lab), k ≤ i ∧ c = .int .i64 k ∧ e = .bool d ∧ v = .slice A2 m cp2 ∧ (m ≤ k + 1 ∧ (d = false → m ≤ k)) ∧ wr.ownsRow wp.heap.size 39 2 (.slice A2 m cp2) m (labC N) ∧ Hid (N.length = m ∧ InsD d N k out (n1, v1)) ∧ Below wp.heap.size wp wr) (fun _ _ c _ => i - (intOf c).toNat)
      case atStart => exact ⟨0, 0, false, _, _, [], Nat.zero_le _, rfl, rfl, rfl, ⟨by omega, fun _ => by omega⟩, hown0, ⟨rfl, InsD.start _ _⟩, hbq⟩
      case round =>
        clear hown0 hbq
        obtain ⟨k, m, d, A2, cp2, N, hk, rfl, rfl, rfl, ⟨hm, hm0⟩, hown, HI, hbi⟩ := hrel
        have hsi := hbi.size
        have g2 := Nat.lt_of_lt_of_le h2 hsi
        have g3 := (hbi.cell (p := ad.add (i * 2)) h2).trans h3
        have g4 := (hbi.cell (p := ⟨(ad.add (i * 2)).block, (ad.add (i * 2)).off + 1, none⟩) h2).trans h4
        by_cases hki : k < i
        · have hko : k < out.length := by omega
          obtain ⟨-, ao, rfl, o2, o3, o4⟩ := (HLo.out.below hbi).2 k hko
          have hlow := Lib.hid (ownLow hown)
          have hy9 := hz _ (HM.out _ (List.getElem_mem hko))
          have hhere : ltN (n1, v1) out[k] = true → d = false → InsD true ((N ++ [(n1, v1)]) ++ [out[k]]) (k + 1) out (n1, v1) := fun e h => by subst h; exact HI.out.2.here hko e
          have hfar : ltN (n1, v1) out[k] = false → d = false → InsD false (N ++ [out[k]]) (k + 1) out (n1, v1) := fun e h => by subst h; exact HI.out.2.far hko e
          have hdone : d = true → InsD true (N ++ [out[k]]) (k + 1) out (n1, v1) := fun h => by subst h; exact HI.out.2.done hko
          have hN := HI.out.1
          obtain ⟨y, hy⟩ : ∃ y, out[k]'hko = y := ⟨_, rfl⟩
          rw [hy] at o3 o4 hhere hfar hdone hy9
          obtain ⟨n2, v2⟩ := y
          obtain ⟨y1, y2⟩ := hy9
          simp only at o3 o4 y1 y2
          have e1 : labC (N ++ [(n2, v2)]) = labC N ++ [.string (str n2), .string (str v2)] := by rw [labC_append]; rfl
          have e2 : labC ((N ++ [(n1, v1)]) ++ [(n2, v2)]) = (labC N ++ [.string (str n1), .string (str v1)]) ++ [.string (str n2), .string (str v2)] := by rw [labC_append, labC_append]; rfl
          have HE1 := Lib.hid e1
          have HE2 := Lib.hid e2
          have HH := Lib.hid hhere
          have HF := Lib.hid hfar
          have HD := Lib.hid hdone
          have hNN := Lib.hid hN
          clear hhere hfar hdone e1 e2 HI hN
          have HB : Hid (∀ q, Below wp.heap.size wp (wr.drewN q)) := fun q => below_drewN hbi q
          have HOC : Hid (∀ W, Below wp.heap.size wp W → (ao.add (k * 2)).block < W.heap.size ∧ W.cell? (ao.add (k * 2)) = some (.string (str n2)) ∧ W.cell? ⟨(ao.add (k * 2)).block, (ao.add (k * 2)).off + 1, none⟩ = some (.string (str v2))) := fun W hW => by
            obtain ⟨-, ad', e, q2, q3, q4⟩ := (HLo.out.below hW).2 k hko
            injection e with e
            subst e
            simp only [hy] at q3 q4
            exact ⟨q2, q3, q4⟩
          clear hy
          cases d with
          | true =>
            have HX := Lib.hid (HD.out rfl)
            have HO : Hid (∀ q, ((wr.drewN q).alloc (.cells #[.string (str n2), .string (str v2)] 39)).ownsRow wp.heap.size 39 2 (.slice A2 m cp2) m (labC N)) := fun q => (show (wr.drewN q).ownsRow _ _ _ _ _ _ from hown).alloc _
            clear hown
            go_wp2_with fail
            go_quiet (fail)
            go_wp2_with (at_builtin; refine wpList_append_lies _ rfl (.tmp 44) (.tmp 49) 22 rfl wp.heap.size 39 i0 (.agg #[.string (str []), .string (str [])]) 2 32 Try.underlying22 hi0 hz0 hz1 hz2 rfl (by decide) _ m _ rfl (HO.out _) ⟨wr.heap.size, 0, none⟩ 1 1 [.string (str n2), .string (str v2)] rfl rfl (cells_two_new _ _ _ _) (by intro u hu; simp at hu; rcases hu with rfl | rfl <;> rfl) (by decide) (by unfold maxLen; omega) (by omega) (by simp; omega) _ rfl ?c6)
            case c6 =>
              intro g1 cap1 w4 hown1 hg1 _ hl1
              have hb4 : Below wp.heap.size wp w4 := ((HB.out _).alloc hsi _).grown hg1 (by simp; omega) hlow.out
              have HW := Lib.hid (And.intro hown1 hb4)
              clear hown1 hg1 hb4
              go_wp2_with fail
              go_roundw
              case rel => exact ⟨k + 1, m + 1, true, _, _, N ++ [(n2, v2)], by omega, by go_num, rfl, rfl, ⟨by omega, fun h => by cases h⟩, by rw [HE1.out]; exact HW.out.1, ⟨by rw [List.length_append, hNN.out]; rfl, HX.out⟩, HW.out.2⟩
              case measure => simp [intOf]; omega
          | false =>
            cases hL : ltN (n1, v1) (n2, v2) with
            | true =>
              have tl : Op.bytesLess n1 n2 = true := hL
              have HX := Lib.hid (HH.out hL rfl)
              have hm1 := hm0 rfl
              have HO : Hid (∀ q, ((wr.drewN q).alloc (.cells #[.string (str n1), .string (str v1)] 39)).ownsRow wp.heap.size 39 2 (.slice A2 m cp2) m (labC N)) := fun q => (show (wr.drewN q).ownsRow _ _ _ _ _ _ from hown).alloc _
              clear hown
              go_wp2_with fail
              go_quiet (fail)
              go_wp2_with (at_builtin; refine wpList_append_lies _ rfl (.tmp 37) (.tmp 42) 22 rfl wp.heap.size 39 i0 (.agg #[.string (str []), .string (str [])]) 2 32 Try.underlying22 hi0 hz0 hz1 hz2 rfl (by decide) _ m _ rfl (HO.out _) ⟨wr.heap.size, 0, none⟩ 1 1 [.string (str n1), .string (str v1)] rfl rfl (cells_two_new _ _ _ _) (by intro u hu; simp at hu; rcases hu with rfl | rfl <;> rfl) (by decide) (by unfold maxLen; omega) (by omega) (by simp; omega) _ rfl ?c6)
              case c6 =>
                intro g1 cap1 w4 hown1 hg1 _ hl1
                have hb4 : Below wp.heap.size wp w4 := ((HB.out _).alloc hsi _).grown hg1 (by simp; omega) hlow.out
                have hs4 := hb4.size
                obtain ⟨p2, p3, p4⟩ := HOC.out w4 hb4
                have hlow4 := Lib.hid (ownLow hown1)
                have HO4 := Lib.hid (hown1.alloc (.cells #[.string (str n2), .string (str v2)] 39))
                have HB4 := Lib.hid hb4
                clear hown1 hg1 hb4
                go_wp2_with (at_builtin; refine wpList_append_lies _ rfl (.tmp 44) (.tmp 49) 22 rfl wp.heap.size 39 i0 (.agg #[.string (str []), .string (str [])]) 2 32 Try.underlying22 hi0 hz0 hz1 hz2 rfl (by decide) _ (m + 1) _ rfl HO4.out ⟨w4.heap.size, 0, none⟩ 1 1 [.string (str n2), .string (str v2)] rfl rfl (cells_two_new _ _ _ _) (by intro u hu; simp at hu; rcases hu with rfl | rfl <;> rfl) (by decide) (by unfold maxLen; omega) (by omega) (by simp; omega) _ rfl ?c7)
                case c7 =>
                  intro g2 cap2 w5 hown2 hg2 _ hl2
                  have hb5 : Below wp.heap.size wp w5 := (HB4.out.alloc hs4 _).grown hg2 (by simp; omega) hlow4.out
                  have HW := Lib.hid (And.intro hown2 hb5)
                  clear hown2 hg2 hb5
                  go_wp2_with fail
                  go_roundw
                  case rel => exact ⟨k + 1, m + 1 + 1, true, _, _, (N ++ [(n1, v1)]) ++ [(n2, v2)], by omega, by go_num, rfl, rfl, ⟨by omega, fun h => by cases h⟩, by rw [HE2.out, List.append_assoc]; exact HW.out.1, ⟨by rw [List.length_append, List.length_append, hNN.out]; rfl, HX.out⟩, HW.out.2⟩
                  case measure => simp [intOf]; omega
            | false =>
              have tl : Op.bytesLess n1 n2 = false := hL
              have HX := Lib.hid (HF.out hL rfl)
              have hm1 := hm0 rfl
              have HO : Hid (∀ q, ((wr.drewN q).alloc (.cells #[.string (str n2), .string (str v2)] 39)).ownsRow wp.heap.size 39 2 (.slice A2 m cp2) m (labC N)) := fun q => (show (wr.drewN q).ownsRow _ _ _ _ _ _ from hown).alloc _
              clear hown
              go_wp2_with fail
              go_quiet (fail)
              go_wp2_with (at_builtin; refine wpList_append_lies _ rfl (.tmp 44) (.tmp 49) 22 rfl wp.heap.size 39 i0 (.agg #[.string (str []), .string (str [])]) 2 32 Try.underlying22 hi0 hz0 hz1 hz2 rfl (by decide) _ m _ rfl (HO.out _) ⟨wr.heap.size, 0, none⟩ 1 1 [.string (str n2), .string (str v2)] rfl rfl (cells_two_new _ _ _ _) (by intro u hu; simp at hu; rcases hu with rfl | rfl <;> rfl) (by decide) (by unfold maxLen; omega) (by omega) (by simp; omega) _ rfl ?c6)
              case c6 =>
                intro g1 cap1 w4 hown1 hg1 _ hl1
                have hb4 : Below wp.heap.size wp w4 := ((HB.out _).alloc hsi _).grown hg1 (by simp; omega) hlow.out
                have HW := Lib.hid (And.intro hown1 hb4)
                clear hown1 hg1 hb4
                go_wp2_with fail
                go_roundw
                case rel => exact ⟨k + 1, m + 1, false, _, _, N ++ [(n2, v2)], by omega, by go_num, rfl, rfl, ⟨by omega, fun _ => by omega⟩, by rw [HE1.out]; exact HW.out.1, ⟨by rw [List.length_append, hNN.out]; rfl, HX.out⟩, HW.out.2⟩
                case measure => simp [intOf]; omega
        · obtain rfl : k = i := by omega
          have hN := HI.out.1
          have hlow := Lib.hid (ownLow hown)
          have HB := Lib.hid hbi
          have HS : Hid (∀ x ∈ sortL (l.take (k + 1)), x.1.length ≤ 9223372036854775807 ∧ x.2.length ≤ 9223372036854775807) := fun x hx => by have := hz _ (HM2.out.1 x hx); omega
          cases d with
          | true =>
            have hI : InsD true N out.length out (n1, v1) := by rw [hlen]; exact HI.out.2
            have e := hI.end1
            have hm1 : m = k + 1 := by rw [← hN, e, ← HN.out]; exact HM2.out.2
            subst hm1
            have hL1 := own_lat (v := .slice none 0 0) hown hN.symm (by rw [e, ← HN.out]; exact HS.out)
            rw [e, ← HN.out] at hL1
            have HW := Lib.hid hL1
            clear hown hI e hL1 HI hN
            go_wp2_with fail
            go_roundw
            case rel => exact ⟨k + 1, by omega, by go_num, ⟨_, _, rfl, HW.out⟩, hb.trans (HB.out.mono hsz)⟩
            case measure => simp [intOf]; omega
          | false =>
            have hI : InsD false N out.length out (n1, v1) := by rw [hlen]; exact HI.out.2
            have e := hI.end0
            have hm1 : m = k := by
              have : (N ++ [(n1, v1)]).length = k + 1 := by rw [e, ← HN.out]; exact HM2.out.2
              rw [List.length_append, hN] at this
              simp at this; omega
            subst hm1
            have HO := Lib.hid (hown.alloc (.cells #[.string (str n1), .string (str v1)] 39))
            have HE := Lib.hid (And.intro hN e)
            clear hown hI e HI hN
            go_wp2_with (at_builtin; refine wpList_append_lies _ rfl (.tmp 53) (.tmp 58) 22 rfl wp.heap.size 39 i0 (.agg #[.string (str []), .string (str [])]) 2 32 Try.underlying22 hi0 hz0 hz1 hz2 rfl (by decide) _ m _ rfl HO.out ⟨wr.heap.size, 0, none⟩ 1 1 [.string (str n1), .string (str v1)] rfl rfl (cells_two_new _ _ _ _) (by intro u hu; simp at hu; rcases hu with rfl | rfl <;> rfl) (by decide) (by unfold maxLen; omega) (by omega) (by simp; omega) _ rfl ?c6)
            case c6 =>
              intro g1 cap1 w4 hown1 hg1 _ hl1
              have hb4 : Below wp.heap.size wp w4 := (HB.out.alloc hsi _).grown hg1 (by simp; omega) hlow.out
              have e1 : labC (N ++ [(n1, v1)]) = labC N ++ [.string (str n1), .string (str v1)] := by rw [labC_append]; rfl
              rw [← e1, HE.out.2, ← HN.out] at hown1
              have hL1 := own_lat (v := .slice none 0 0) hown1 HM2.out.2.symm HS.out
              have HW := Lib.hid (And.intro hL1 hb4)
              clear hown1 hg1 hb4 hL1 e1
              go_wp2_with fail
              go_roundw
              case rel => exact ⟨m + 1, by omega, by go_num, ⟨_, _, rfl, HW.out.1⟩, hb.trans (HW.out.2.mono hsz)⟩
              case measure => simp [intOf]; omega
    · obtain rfl : i = l.length := by omega
      go_wp2_with fail
      go_ret
      refine ⟨⟨_, _, rfl, ?_⟩, hb⟩
      have := HL.out
      rw [List.take_length] at this
      exact this
end Go.Proofs.Ytopnnhjfcfhihaa
