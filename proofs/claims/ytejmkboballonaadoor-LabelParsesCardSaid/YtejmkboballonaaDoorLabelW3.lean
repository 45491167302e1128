/-
  Layer 4 (label): what the document's own Parse returns; all that was in memory stays.
-/
import Derived.Test.YtejmkboballonaaDoorLabelW2
import Derived.Test.YtejmkboballonaaDoorLabelD
import Derived.Test.YtejmkboballonaaDoorLabelR
import Derived.Test.YtejmkboballonaaDoorLabelParseR
namespace Go.Proofs.YtejmkboballonaaDoor
open Go.RowKit Go.Deep
attribute [local go_sem] str_size str_append str_toList str_get str_extract
set_option linter.unusedVariables false
set_option linter.unusedSimpArgs false
theorem printL_empty : okL [] = true ∧ printL [] = [123, 125] := by
  constructor
  · rfl
  · rfl
set_option maxHeartbeats 4000000 in
theorem refParse_c (s : List UInt8) (w : World) (hs : s.length ≤ 4096) :
    Calls Tryd.prog 22 #[.string (str s)] w fun e w' => Parsed (parseL s) e w' ∧ Below w.heap.size w w' := by
  obtain ⟨i0, hi0, hz0, hz1, hz2⟩ := info_parts lab_info
  obtain ⟨R, hR⟩ : ∃ R, parseL s = R := ⟨_, rfl⟩
  rw [hR]
  have HR := Lib.hid hR
  clear hR
  by_cases h2 : s = [123, 125]
  · have e : parseL s = some [] := parseL_some printL_empty.1 (by rw [h2]; exact printL_empty.2)
    rw [HR.out] at e
    subst e
    subst h2
    have HZ : Hid (∀ w' : World, LAt w' (some ⟨w.heap.size, 0, none⟩) 0 []) := fun w' => LAt.nil _ _
    go_enter Tryd.func22, Tryd.ntmps22
    go_wp2_with fail
    go_ret2
    exact ⟨⟨_, _, rfl, HZ.out _, by simp⟩, (Below.refl _ _).alloc (Nat.le_refl _) _⟩
  have t2 : (s == [123, 125]) = false := by rw [beq_eq_false_iff_ne]; exact h2
  have HG0 := Lib.hid (GoesR.start h2)
  clear h2
  go_enter Tryd.func22, Tryd.ntmps22
  go_wp2_with fail
  go_loopw [4, 5] (fun v c wr => ∃ (a : Nat) (acc : List Lab), c = .int .i64 a ∧ 1 ≤ a ∧ a ≤ s.length + 1 ∧ acc.length ≤ a ∧ wr.ownsRow w.heap.size 34 2 v acc.length (labC acc) ∧ (∀ x ∈ acc, x.1.length ≤ s.length ∧ x.2.length ≤ s.length) ∧ Hid (GoesR s acc a) ∧ Below w.heap.size w wr) (fun _ c _ => s.length + 1 - (intOf c).toNat)
  case atStart => exact ⟨1, [], rfl, by omega, by omega, by simp, World.ownsRow_made w #[] 0 (Nat.le_refl _) (by unfold maxLen; omega) rfl, by simp, HG0.out, (Below.refl _ _).alloc (Nat.le_refl _) _⟩
  case round =>
    clear t2
    obtain ⟨a, acc, rfl, ha1, ha, hal, hown, hsm, HG, hb⟩ := hrel
    obtain ⟨A, cap, rfl⟩ := row_slice hown
    have hsz := hb.size
    have hlow := Lib.hid (ownLow hown)
    by_cases hlt : a < s.length
    · have HO := Lib.hid hown
      have HSM := Lib.hid hsm
      clear hown hsm
      go_wp2_with fail
      obtain ⟨wo, rfl⟩ : ∃ wo : World, wo = wr := ⟨_, rfl⟩
      go_loopw [6] (fun c wr => ∃ k : Nat, c = .int .i64 k ∧ a ≤ k ∧ k ≤ s.length ∧ Hid (∀ j (hj : j < s.length), a ≤ j → j < k → (s[j]'hj).toNat ≠ 61) ∧ wo = wr) (fun c _ => s.length - (intOf c).toNat)
      case atStart => exact ⟨a, rfl, Nat.le_refl _, by omega, fun j hj h1 h2 => by omega, rfl⟩
      case round =>
        obtain ⟨k, rfl, hak, hks, HJ, rfl⟩ := hrel
        by_cases hkl : k < s.length
        · obtain ⟨x, hx⟩ : ∃ x, s[k]'hkl = x := ⟨_, rfl⟩
          have HX := Lib.hid hx
          have hxl : x.toNat < 256 := x.toNat_lt
          by_cases h61 : x.toNat = 61
          · have t1 : (((x.toNat : Nat) : Int) != 61) = false := by simp [bne, h61]
            have hc := cutE_at hak hkl (by rw [HX.out]; exact h61) HJ.out
            have tk : ((k : Int) == (s.length : Int)) = false := by rw [beq_eq_false_iff_ne]; omega
            have htk : (s.drop (k + 1)).take (s.length - (k + 1)) = s.drop (k + 1) := List.take_of_length_le (by rw [List.length_drop]; omega)
            have cq := fun W => refQuoted_c (s.drop (k + 1)) W (by rw [List.length_drop]; omega)
            have hql := quotedL_le (s.drop (k + 1))
            rw [List.length_drop] at hql
            have hstep := Lib.hid (GoesR.step HG.out hlt hkl hc)
            have hnoq := Lib.hid (fun h => GoesR.noQuote HG.out hlt hc h)
            obtain ⟨V, hV⟩ : ∃ V, (quotedL (s.drop (k + 1))).1 = V := ⟨_, rfl⟩
            obtain ⟨M, hM⟩ : ∃ M, (quotedL (s.drop (k + 1))).2 = M := ⟨_, rfl⟩
            rw [hV, hM] at cq hql hstep
            rw [hM] at hnoq
            clear hc hV hM
            by_cases hM0 : M = 0
            · subst hM0
              have e : parseL s = none := parseL_none (hnoq.out rfl)
              rw [HR.out] at e
              subst e
              go_wp2_with (go_at_call 35; refine (cq _).mono ?_; rintro e w2 ⟨rfl, rfl⟩)
              go_ret2
              exact ⟨rfl, hb⟩
            · have tM : ((M : Int) == 0) = false := by rw [beq_eq_false_iff_ne]; omega
              have hMp : 0 < M := by omega
              obtain ⟨N, hN⟩ : ∃ N, (s.drop a).take (k - a) = N := ⟨_, rfl⟩
              have hNl : N.length ≤ s.length := by rw [← hN, List.length_take, List.length_drop]; omega
              rw [hN] at hstep
              have HSM2 : Hid (∀ x ∈ acc ++ [(N, V)], x.1.length ≤ s.length ∧ x.2.length ≤ s.length) := by
                intro x hx
                rcases List.mem_append.1 hx with hx | hx
                · exact HSM.out x hx
                · simp at hx; subst hx; constructor <;> simp only <;> omega
              have HO3 := Lib.hid (HO.out.alloc (.cells #[.string (str N), .string (str V)] 34))
              have hcap : acc.length ≤ 4097 := by omega
              clear hnoq hM0
              go_wp2_with (first | (go_at_call 35; refine (cq _).mono ?_; rintro e w2 ⟨rfl, rfl⟩) | (at_builtin; refine wpList_append_lies _ rfl (.tmp 46) (.tmp 53) 24 rfl w.heap.size 34 i0 (.agg #[.string (str []), .string (str [])]) 2 32 Tryd.underlying24 hi0 hz0 hz1 hz2 rfl (by decide) _ acc.length _ rfl HO3.out ⟨wo.heap.size, 0, none⟩ 1 1 [.string (str N), .string (str V)] rfl rfl ?c1 ?c2 (by decide) ?c3 ?c4 ?c5 _ rfl ?c6))
              case c1 => exact cells_two_new _ _ _ _
              case c2 => intro u hu; simp at hu; rcases hu with rfl | rfl <;> rfl
              case c3 => unfold maxLen; omega
              case c4 => omega
              case c5 => simp; omega
              case c6 =>
                intro g1 cap1 w4 hown1 hg1 _ hl1
                have hb4 : Below w.heap.size w w4 := (hb.alloc hsz _).grown hg1 (by simp; omega) hlow.out
                have HO4 := Lib.hid hown1
                clear hown1 hg1
                go_wp2_with fail
                go_roundw
                case rel => exact ⟨k + 1 + M + 1, acc ++ [(N, V)], by go_num, by omega, by omega, by simp; omega, by rw [List.length_append, labC_append]; exact HO4.out, HSM2.out, hstep.out, hb4⟩
                case measure => simp [intOf]; omega
          · have t1 : (((x.toNat : Nat) : Int) != 61) = true := by
              have : (((x.toNat : Nat) : Int) == 61) = false := by rw [beq_eq_false_iff_ne]; omega
              simp [bne, this]
            have HJ2 : Hid (∀ j (hj : j < s.length), a ≤ j → j < k + 1 → (s[j]'hj).toNat ≠ 61) := by
              intro j hj h1 h2
              by_cases he : j = k
              · subst he; rw [HX.out]; exact h61
              · exact HJ.out j hj h1 (by omega)
            go_wp2_with fail
            go_roundw
            case rel => exact ⟨k + 1, by go_num, by omega, by omega, HJ2.out, by first | rfl | trivial⟩
            case measure => simp [intOf]; omega
        · obtain rfl : k = s.length := by omega
          have e : parseL s = none := parseL_none (GoesR.noCut HG.out hlt (cutE_end HJ.out))
          rw [HR.out] at e
          subst e
          go_wp2_with fail
          go_ret2
          exact ⟨rfl, hb⟩
    · have hun := GoesR.done HG.out (by omega)
      have hl := own_lat (v := .slice none 0 0) hown rfl (fun x hx => by have := hsm x hx; omega)
      have cp := fun W h1 => refPrint_c A acc.length cap acc W (by omega) h1 (fun x hx => by have := hsm x hx; omega)
      have x0 : eOf true = 0 := rfl
      have x1 : eOf false = 40 := rfl
      have HL := Lib.hid hl
      cases hO : okL acc with
      | false =>
        have e : parseL s = none := parseL_none (fun L h1 h2 => by
          have := hun L h1 h2
          subst this
          rw [hO] at h1; cases h1)
        rw [HR.out] at e
        subst e
        rw [hO, x1] at cp
        clear hun hsm hown
        go_wp2_with (go_at_call 16; refine (cp _ hl).mono ?_; rintro e w2 ⟨rfl, hb2⟩)
        go_ret2
        exact ⟨rfl, below2 hb hb2 hb.size⟩
      | true =>
        have hl8 := okL_len hO
        rw [hO, x0, if_pos rfl] at cp
        by_cases hp : printL acc = s
        · have e := parseL_some hO hp
          rw [HR.out] at e
          subst e
          rw [hp] at cp
          have tn : (s != s) = false := by simp
          clear hun hsm hown
          go_wp2_with (go_at_call 16; refine (cp _ hl).mono ?_; rintro e w2 ⟨rfl, hb2⟩)
          go_ret2
          exact ⟨⟨A, cap, rfl, HL.out.below hb2, hl8⟩, below2 hb hb2 hb.size⟩
        · have e : parseL s = none := parseL_none (fun L h1 h2 => by
            have := hun L h1 h2
            subst this
            exact hp h2)
          rw [HR.out] at e
          subst e
          have tn : (printL acc == s) = false := by rw [beq_eq_false_iff_ne]; exact hp
          obtain ⟨Q, hQ⟩ : ∃ Q, printL acc = Q := ⟨_, rfl⟩
          rw [hQ] at cp tn
          clear hun hsm hp hQ hown
          go_wp2_with (go_at_call 16; refine (cp _ hl).mono ?_; rintro e w2 ⟨rfl, hb2⟩)
          go_ret2
          exact ⟨rfl, below2 hb hb2 hb.size⟩
end Go.Proofs.YtejmkboballonaaDoor
