/-
  Layer 5 (match): what the program's Check returns; all that was in memory stays.
-/
import Derived.Test.YtopnnhjfcfhihaaDoorMatchForm
import Derived.Test.YtopnnhjfcfhihaaDoorMatchK
import Derived.Test.YtopnnhjfcfhihaaDoorLabelC
import Derived.Test.YtopnnhjfcfhihaaDoorHeld
namespace Go.Proofs.YtopnnhjfcfhihaaDoor
open Go.RowKit Go.Deep
attribute [local go_sem] str_size str_append str_toList str_get str_extract
set_option linter.unusedVariables false
set_option linter.unusedSimpArgs false
set_option maxRecDepth 100000 in
set_option maxHeartbeats 1000000 in
theorem maySet_c (A : Option Addr) (len cap : Nat) (s : List (List UInt8)) (w : World) (hl : s.length ≤ 16384) (hA : StrsAt w A len s) (hz : ∀ x ∈ s, x.length ≤ 16384) (hT : Lib.Utf8Tabs 1 2 w) :
    Calls Tryd.prog 39 #[.slice A len cap] w fun e w' => e = .returned (.bool (setL s)) ∧ Below w.heap.size w w' := by
  have hle := hA.1
  subst hle
  by_cases h0 : s.length = 0
  · have e : setL s = false := by unfold setL; simp [h0]
    rw [e]
    have t0 : ((s.length : Int) == 0) = true := by simp [h0]
    clear h0 e
    go_enter Tryd.func39, Tryd.ntmps39
    go_wp2_with fail
    go_ret
    exact ⟨rfl, Below.refl _ _⟩
  have t0 : ((s.length : Int) == 0) = false := by rw [beq_eq_false_iff_ne]; omega
  by_cases h8 : 8 < (s.length : Int)
  · have e : setL s = false := by unfold setL; rw [show decide (s.length ≤ 8) = false by simp; omega]; simp
    rw [e]
    clear e h0
    go_enter Tryd.func39, Tryd.ntmps39
    go_wp2_with fail
    go_ret
    exact ⟨rfl, Below.refl _ _⟩
  have t8 : decide (8 < (s.length : Int)) = false := by simpa using h8
  have e : setL s = setFrom none s := by unfold setL; rw [show decide (1 ≤ s.length) = true by simp; omega, show decide (s.length ≤ 8) = true by simp; omega]; simp
  rw [e]
  obtain ⟨R, hR⟩ : ∃ R, setFrom none s = R := ⟨_, rfl⟩
  rw [hR]
  have HR := Lib.hid hR
  clear hR e h0 h8
  go_enter Tryd.func39, Tryd.ntmps39
  go_wp2_with fail
  go_loopw [15] (fun c wr => ∃ i : Nat, i ≤ s.length ∧ c = .int .i64 i ∧ Hid (setFrom (prevO s i) (s.drop i) = R) ∧ Below w.heap.size w wr) (fun c _ => s.length - (intOf c).toNat)
  case atStart => exact ⟨0, Nat.zero_le _, rfl, HR.out, Below.refl _ _⟩
  case round =>
    obtain ⟨i, hi, rfl, HI, hb⟩ := hrel
    have hsz := hb.size
    by_cases hlt : i < s.length
    · obtain ⟨-, ad, rfl, h2, h3⟩ := (hA.below hb).2 i hlt
      have hT2 := Utf8Tabs_below hT hb
      have hst := setFrom_at (o := prevO s i) hlt
      rw [HI.out] at hst
      have z1 := hz _ (List.getElem_mem hlt)
      have hnx := prevO_succ hlt
      obtain ⟨v, hv⟩ : ∃ v, s[i]'hlt = v := ⟨_, rfl⟩
      rw [hv] at hst h3 z1 hnx
      have HNX := Lib.hid hnx
      have HST := Lib.hid hst
      have c1 := fun W h => value_c v W (by omega) h
      clear hst hv hnx
      cases hV : valueL v with
      | false =>
        have e := HST.out
        rw [hV, Bool.false_and] at e
        subst e
        rw [hV] at c1
        clear hV
        go_wp2_with (go_at_call 40; refine (c1 _ hT2).mono ?_; rintro e w1 ⟨rfl, hb1⟩; dsimp only)
        go_ret
        exact ⟨rfl, below2 hb hb1 hsz⟩
      | true =>
      rw [hV] at c1
      by_cases hi0 : i = 0
      · subst hi0
        have e := HST.out
        rw [prevO_zero, hV, Bool.true_and] at e
        have e2 : R = setFrom (some v) (s.drop (0 + 1)) := e
        have HE : Hid (setFrom (prevO s (0 + 1)) (s.drop (0 + 1)) = R) := by show _ = _; rw [HNX.out, e2]
        clear hV e e2
        have ea : ad.add 0 = ad := by rcases ad with ⟨b, o, p⟩; cases p <;> rfl
        rw [ea] at h2 h3
        go_wp2_with (go_at_call 40; refine (c1 _ hT2).mono ?_; rintro e w1 ⟨rfl, hb1⟩; dsimp only)
        go_roundw
        case rel => exact ⟨1, by omega, by go_num, HE.out, below2 hb hb1 hsz⟩
        case measure => simp [intOf]; omega
      · obtain ⟨j, rfl⟩ : ∃ j, i = j + 1 := ⟨i - 1, by omega⟩
        have ea : ad.add (j + 1) = ⟨ad.block, ad.off + (j + 1), none⟩ := by unfold Addr.add; rw [if_neg (by omega)]
        rw [ea] at h2 h3
        clear ea
        have hpj := prevO_succ (s := s) (i := j) (by omega)
        have hcell := fun W (hW : Below wr.heap.size wr W) => (((hA.below hb).below hW).2 j (by omega))
        obtain ⟨p, hp⟩ : ∃ p, s[j]'(by omega) = p := ⟨_, rfl⟩
        have hcell2 : ∀ W, Below wr.heap.size wr W → (ad.add j).block < W.heap.size ∧ W.cell? (ad.add j) = some (.string (str p)) := fun W hW => by
          obtain ⟨-, ad', e, q2, q3⟩ := hcell W hW
          injection e with e
          subst e
          rw [hp] at q3
          exact ⟨q2, q3⟩
        have HC := Lib.hid hcell2
        rw [hp] at hpj
        have HPJ := Lib.hid hpj
        have hord := less_trans_like v p
        have HORD := Lib.hid hord
        have ej : ((j + 1 : Nat) : Int) - 1 = (j : Int) := by omega
        have tj : (0 : Int) < ((j + 1 : Nat) : Int) := by omega
        have tj2 : (0 : Int) < (j : Int) + 1 := by omega
        clear hord hpj hp hcell hcell2
        cases hL : Op.bytesLess p v with
        | false =>
          have e := HST.out
          rw [HPJ.out, hV, Bool.true_and] at e
          have e2 : R = (Op.bytesLess p v && setFrom (some v) (s.drop (j + 1 + 1))) := e
          rw [hL, Bool.false_and] at e2
          subst e2
          have tl : (Op.bytesLess v p || v == p) = true := by have := HORD.out; rw [hL] at this; revert this; generalize (Op.bytesLess v p || v == p) = q; cases q <;> simp
          clear hV hL e
          go_wp2_with (go_at_call 40; refine (c1 _ hT2).mono ?_; rintro e w1 ⟨rfl, hb1⟩; obtain ⟨q2, q3⟩ := HC.out _ hb1; dsimp only)
          go_ret
          exact ⟨rfl, below2 hb hb1 hsz⟩
        | true =>
          have e := HST.out
          rw [HPJ.out, hV, Bool.true_and] at e
          have e2 : R = (Op.bytesLess p v && setFrom (some v) (s.drop (j + 1 + 1))) := e
          rw [hL, Bool.true_and] at e2
          have HE : Hid (setFrom (prevO s (j + 1 + 1)) (s.drop (j + 1 + 1)) = R) := by show _ = _; rw [HNX.out, e2]
          have tl : (Op.bytesLess v p || v == p) = false := by have := HORD.out; rw [hL] at this; revert this; generalize (Op.bytesLess v p || v == p) = q; cases q <;> simp
          clear hV hL e e2
          go_wp2_with (go_at_call 40; refine (c1 _ hT2).mono ?_; rintro e w1 ⟨rfl, hb1⟩; obtain ⟨q2, q3⟩ := HC.out _ hb1; dsimp only)
          go_roundw
          case rel => exact ⟨j + 1 + 1, by omega, by go_num, HE.out, below2 hb hb1 hsz⟩
          case measure => simp [intOf]; omega
    · obtain rfl : i = s.length := by omega
      have e := HI.out
      rw [setFrom_end] at e
      subst e
      go_wp2_with fail
      go_ret
      exact ⟨rfl, hb⟩
def mayL (many : Bool) (v : List UInt8) (s : List (List UInt8)) : Bool := if many = true then (v == []) && setL s else valueL v && decide (s.length = 0)
set_option maxHeartbeats 1000000 in
theorem mayLook_c (mark : List UInt8) (nt many : Bool) (F : Nat) (v : List UInt8) (A : Option Addr) (cap : Nat) (s : List (List UInt8)) (w : World) (hl : s.length ≤ 16384) (hA : StrsAt w A s.length s) (hz : ∀ x ∈ s, x.length ≤ 16384) (hv : v.length ≤ 16384) (hT : Lib.Utf8Tabs 1 2 w) :
    Calls Tryd.prog 21 #[.agg #[.string (str mark), .bool nt, .bool many, .func (.func F) #[] #[]], .string (str v), .slice A s.length cap] w fun e w' => e = .returned (.bool (mayL many v s)) ∧ Below w.heap.size w w' := by
  have hst := fun (a : Addr) (w : World) => run_store Tryd.prog w a (.func (.func F) #[] #[]) .plain rfl
  have hb1 : Below w.heap.size w (w.alloc (.cells #[.string (str mark), .bool nt, .bool many, .func (.func F) #[] #[]] 43)) := (Below.refl _ _).alloc (Nat.le_refl _) _
  have hT1 := Utf8Tabs_below hT hb1
  cases many with
  | true =>
    have cs := maySet_c A s.length cap s _ hl (hA.below hb1) hz hT1
    have e : mayL true v s = ((v == []) && setL s) := rfl
    rw [e]
    obtain ⟨R, hR⟩ : ∃ R, setL s = R := ⟨_, rfl⟩
    rw [hR] at cs ⊢
    by_cases hv0 : v = []
    · subst hv0
      clear e hR
      go_enter Tryd.func21, Tryd.ntmps21
      go_wp2_with (go_at_call 39; refine cs.mono ?_; rintro e w1 ⟨rfl, hb2⟩; dsimp only)
      go_ret
      exact ⟨rfl, below2 hb1 hb2 hb1.size⟩
    · have tv : (v == []) = false := by rw [beq_eq_false_iff_ne]; exact hv0
      rw [tv, Bool.false_and]
      clear e hR hv0
      go_enter Tryd.func21, Tryd.ntmps21
      go_wp2_with fail
      go_ret
      exact ⟨rfl, hb1⟩
  | false =>
    have cv := value_c v _ (by omega) hT1
    have e : mayL false v s = (valueL v && decide (s.length = 0)) := rfl
    rw [e]
    cases hV : valueL v with
    | false =>
      rw [hV] at cv
      rw [Bool.false_and]
      clear e
      go_enter Tryd.func21, Tryd.ntmps21
      go_wp2_with (go_at_call 40; refine cv.mono ?_; rintro e w1 ⟨rfl, hb2⟩; dsimp only)
      go_ret
      exact ⟨rfl, below2 hb1 hb2 hb1.size⟩
    | true =>
      rw [hV] at cv
      rw [Bool.true_and]
      obtain ⟨b, hb⟩ : ∃ b, decide (s.length = 0) = b := ⟨_, rfl⟩
      have tb : ((s.length : Int) == 0) = b := by rw [← hb, Bool.eq_iff_iff]; simp
      rw [hb]
      clear e hb
      go_enter Tryd.func21, Tryd.ntmps21
      go_wp2_with (go_at_call 40; refine cv.mono ?_; rintro e w1 ⟨rfl, hb2⟩; dsimp only)
      go_ret
      exact ⟨rfl, below2 hb1 hb2 hb1.size⟩
theorem kind_many (k : Int) (hk : 0 ≤ k ∧ k ≤ 3) : ∃ mark nt F, kindL k = kindV mark nt (decide (k = 3)) (.func (.func F) #[] #[]) := by
  unfold kindL
  by_cases h0 : k = 0
  · subst h0; exact ⟨_, _, _, rfl⟩
  by_cases h1 : k = 1
  · subst h1; exact ⟨_, _, _, rfl⟩
  by_cases h2 : k = 2
  · subst h2; exact ⟨_, _, _, rfl⟩
  have h3 : k = 3 := by omega
  subst h3; exact ⟨_, _, _, rfl⟩
theorem chkL_in {m : Mat} (hk : 0 ≤ m.1 ∧ m.1 ≤ 3) : chkL m = (nameL m.2.1 && mayL (decide (m.1 = 3)) m.2.2.1 m.2.2.2) := by
  unfold chkL mayL
  by_cases h : m.1 = 3
  · simp [h]
  · simp [h, hk]
theorem chkL_out {m : Mat} (hk : ¬ (0 ≤ m.1 ∧ m.1 ≤ 3)) : chkL m = false := by
  unfold chkL
  rw [if_neg (by omega), if_neg hk, Bool.and_false]
set_option maxHeartbeats 1000000 in
theorem mcheck_c (m : Mat) (A : Option Addr) (cap : Nat) (w : World) (hm : smallM m) (hS : StrsAt w A m.2.2.2.length m.2.2.2) (hT : Lib.Utf8Tabs 1 2 w) :
    Calls Tryd.prog 8 #[.agg #[.int .i64 m.1, .string (str m.2.1), .string (str m.2.2.1), .slice A m.2.2.2.length cap]] w fun e w' => e = .returned (.int .i64 (eM (chkL m))) ∧ Below w.heap.size w w' := by
  have ck := fun W => kindOf_c m.1 W
  have e0 : eM true = 0 := rfl
  have e1 : eM false = 50 := rfl
  by_cases hk : 0 ≤ m.1 ∧ m.1 ≤ 3
  · rw [decide_eq_true hk] at ck
    rw [chkL_in hk]
    obtain ⟨mark, nt, F, ek⟩ := kind_many m.1 hk
    rw [ek] at ck
    obtain ⟨z1, z2, z3, z4⟩ := hm
    obtain ⟨k, n, v, s⟩ := m
    simp only at ck hS z1 z2 z3 z4 ⊢
    obtain ⟨many, hmany⟩ : ∃ b, decide (k = 3) = b := ⟨_, rfl⟩
    rw [hmany] at ck ⊢
    unfold kindV at ck
    have hst := fun (a : Addr) (w : World) => run_store Tryd.prog w a (.func (.func F) #[] #[]) .plain rfl
    have cn := fun W => name_c n W (by omega)
    have cm := fun W h h' => mayLook_c mark nt many F v A cap s W z3 h z4 z2 h'
    have d := blk_new w (.cells #[.int .i64 k, .string (str n), .string (str v), .slice A s.length cap] 30)
    have hba : Below w.heap.size w (w.alloc (.cells #[.int .i64 k, .string (str n), .string (str v), .slice A s.length cap] 30)) := (Below.refl _ _).alloc (Nat.le_refl _) _
    have hsa : w.heap.size < (w.alloc (.cells #[.int .i64 k, .string (str n), .string (str v), .slice A s.length cap] 30)).heap.size := by simp
    have hq : ∀ W1 W, Below (w.alloc (.cells #[.int .i64 k, .string (str n), .string (str v), .slice A s.length cap] 30)).heap.size (w.alloc (.cells #[.int .i64 k, .string (str n), .string (str v), .slice A s.length cap] 30)) W1 →
        Below (W1.alloc (.cells #[.string (str mark), .bool nt, .bool many, .func (.func F) #[] #[]] 43)).heap.size (W1.alloc (.cells #[.string (str mark), .bool nt, .bool many, .func (.func F) #[] #[]] 43)) W →
        (W.cell? ⟨W1.heap.size, 0, none⟩ = some (.string (str mark)) ∧ W.cell? ⟨W1.heap.size, 1, none⟩ = some (.bool nt) ∧ W.cell? ⟨W1.heap.size, 2, none⟩ = some (.bool many) ∧ W.cell? ⟨W1.heap.size, 3, none⟩ = some (.func (.func F) #[] #[]) ∧
        W.cell? ⟨w.heap.size, 0, none⟩ = some (.int .i64 k) ∧ W.cell? ⟨w.heap.size, 1, none⟩ = some (.string (str n)) ∧ W.cell? ⟨w.heap.size, 2, none⟩ = some (.string (str v)) ∧ W.cell? ⟨w.heap.size, 3, none⟩ = some (.slice A s.length cap)) ∧ Below w.heap.size w W := fun W1 W h1 h2 => by
      have hs1 := h1.size
      have x1 := (h2.block W1.heap.size (by simp)).trans (blk_new W1 _)
      have hx := h1.trans ((((Below.refl _ W1).alloc (Nat.le_refl _) _).mono hs1).trans (h2.mono (by simp at hs1 ⊢; omega)))
      have x2 := (hx.block w.heap.size hsa).trans d
      exact ⟨⟨blk_cell x1 0, blk_cell x1 1, blk_cell x1 2, blk_cell x1 3, blk_cell x2 0, blk_cell x2 1, blk_cell x2 2, blk_cell x2 3⟩, hba.trans (hx.mono (by omega))⟩
    have hq1 : ∀ W1, Below (w.alloc (.cells #[.int .i64 k, .string (str n), .string (str v), .slice A s.length cap] 30)).heap.size (w.alloc (.cells #[.int .i64 k, .string (str n), .string (str v), .slice A s.length cap] 30)) W1 →
        w.heap.size < W1.heap.size ∧ W1.cell? ⟨w.heap.size, 0, none⟩ = some (.int .i64 k) ∧ W1.cell? ⟨w.heap.size, 1, none⟩ = some (.string (str n)) ∧ W1.cell? ⟨w.heap.size, 2, none⟩ = some (.string (str v)) ∧ W1.cell? ⟨w.heap.size, 3, none⟩ = some (.slice A s.length cap) := fun W1 h1 => by
      have x2 := (h1.block w.heap.size hsa).trans d
      have := h1.size
      exact ⟨by omega, blk_cell x2 0, blk_cell x2 1, blk_cell x2 2, blk_cell x2 3⟩
    have HQ1 := Lib.hid hq1
    clear hq1
    have HQ := Lib.hid hq
    have HR : Hid (∀ W, Below w.heap.size w W → StrsAt W A s.length s ∧ Lib.Utf8Tabs 1 2 W) := fun W hW => ⟨hS.below hW, Utf8Tabs_below hT hW⟩
    clear d hq hmany ek hk
    cases hN : nameL n with
    | false =>
      rw [hN] at cn
      rw [Bool.false_and, e1]
      clear hN
      go_enter Tryd.func8, Tryd.ntmps8
      go_wp2_with (first | (go_at_call 19; refine (ck _).mono ?_; rintro e w1 ⟨rfl, hb1⟩; obtain ⟨r0, r1, r2, r3, r4⟩ := HQ1.out _ hb1; dsimp only) | (go_at_call 20; refine (cn _).mono ?_; rintro e w2 ⟨rfl, hb2⟩; obtain ⟨⟨p0, p1, p2, p3, q0, q1, q2, q3⟩, hbw⟩ := HQ.out _ _ hb1 hb2; dsimp only))
      go_ret
      exact ⟨rfl, hbw⟩
    | true =>
      rw [hN] at cn
      rw [Bool.true_and]
      obtain ⟨b, hb⟩ : ∃ b, mayL many v s = b := ⟨_, rfl⟩
      rw [hb] at cm ⊢
      clear hN hb
      cases b
      all_goals
        go_enter Tryd.func8, Tryd.ntmps8
        go_wp2_with (first | (go_at_call 19; refine (ck _).mono ?_; rintro e w1 ⟨rfl, hb1⟩; obtain ⟨r0, r1, r2, r3, r4⟩ := HQ1.out _ hb1; dsimp only) | (go_at_call 20; refine (cn _).mono ?_; rintro e w2 ⟨rfl, hb2⟩; obtain ⟨⟨p0, p1, p2, p3, q0, q1, q2, q3⟩, hbw⟩ := HQ.out _ _ hb1 hb2; dsimp only) | (go_at_call 21; refine (cm _ (HR.out _ hbw).1 (HR.out _ hbw).2).mono ?_; rintro e w3 ⟨rfl, hb3⟩; dsimp only))
        go_ret
        exact ⟨by first | rfl | rw [e0] | rw [e1], below2 hbw hb3 hbw.size⟩
  · rw [decide_eq_false hk] at ck
    rw [chkL_out hk, e1]
    have e : kindL m.1 = kindV [] false false .nilFunc := by
      unfold kindL
      rw [if_neg (by omega), if_neg (by omega), if_neg (by omega), if_neg (by omega)]
    rw [e] at ck
    unfold kindV at ck
    have hst := fun (a : Addr) (w : World) => run_store Tryd.prog w a .nilFunc .plain rfl
    clear hk e
    go_enter Tryd.func8, Tryd.ntmps8
    go_wp2_with (go_at_call 19; refine (ck _).mono ?_; rintro e w1 ⟨rfl, hb1⟩; have hsz1 := hb1.size; dsimp only)
    go_ret
    exact ⟨rfl, (((Below.refl _ _).alloc (Nat.le_refl _) _).trans (hb1.mono (by simp))).alloc (by simp at hsz1; omega) _⟩
end Go.Proofs.YtopnnhjfcfhihaaDoor
