/-
  Layer 9 (block): a step at both disks; the law BlockScript returns true.
-/
import Derived.Test.YtndmndchbfmppaaBlockUse
import Derived.Test.YtndmndchbfmppaaBlockFacts
import Derived.Test.YtndmndchbfmppaaHeld
import Derived.Deep.RegionLaw
namespace Go.Proofs.Ytndmndchbfmppaa
open Go.RowKit Go.Deep
attribute [local go_sem] str_size str_append str_toList str_get str_extract
set_option linter.unusedVariables false
set_option linter.unusedSimpArgs false
/-- What a step makes of a disk. -/
def stepD (S : DSt) (o : BStp) : DSt :=
  if o.1 = 0 then (writeD S o.2.1 o.2.2.1).2 else if o.1 = 1 then (flushD S).2 else if o.1 = 2 then cutD S o.2.1 o.2.2.2 else if o.1 = 3 then downD S o.2.2.2 else if o.1 = 4 then powerD S else S
theorem fit_step {S : DSt} {c : Nat} (h : Fit S c) (o : BStp) : Fit (stepD S o) (c + 2) := by
  unfold stepD
  split
  · exact fit_write h
  · split
    · exact fit_flush h
    · split
      · exact (fit_cut h).mono (by omega)
      · split
        · exact (fit_down h).mono (by omega)
        · split
          · exact (fit_power h).mono (by omega)
          · exact h.mono (by omega)
theorem BothD.free {w0 : World} {q r : Nat} {S T : DSt} {X : List Nat} {w : World} (h : BothD w0 q r S T X w) : BothD w0 q r S T [] w := by
  obtain ⟨F, G, h1, h2, h3, h4, h5, h6, h7⟩ := h
  exact ⟨F, G, h1, h2, fun k hk => ⟨(h3 k hk).1, by simp⟩, fun k hk => ⟨(h4 k hk).1, by simp⟩, h5, by simp, h7⟩
theorem BothD.lt {w0 : World} {q r p : Nat} {S T : DSt} {w : World} (h : BothD w0 q r S T [p] w) : p < w.heap.size := by
  obtain ⟨F, G, h1, h2, h3, h4, h5, h6, h7⟩ := h
  exact h6 p (by simp)
theorem same_se (a : Byts) : (a == a) = true := by simp
set_option maxRecDepth 100000 in
set_option maxHeartbeats 2000000 in
theorem does_c {w0 : World} {q r : Nat} {S : DSt} (kd I : Int) (s : Byts) (keep : Nat) (w : World) (h : BothD w0 q r S S [] w) (hf : Fit S 790000) (h1 : -9223372036854775808 ≤ kd) (h2 : kd ≤ 9223372036854775807) (h3 : -9223372036854775808 ≤ I) (h4 : I ≤ 9223372036854775807) (h5 : s.length ≤ 9223372036854775807) (h6 : keep < 18446744073709551616) :
    Calls Try.prog 12 #[.pointer (some ⟨q, 0, none⟩), .pointer (some ⟨r, 0, none⟩), .agg #[.int .i64 kd, .int .i64 I, .string (str s), .int .u64 (keep : Int)]] w fun e w' => e = .returned (.bool true) ∧ BothD w0 q r (stepD S (kd, I, s, keep)) (stepD S (kd, I, s, keep)) [] w' := by
  have hbox : w.heap.size < (w.alloc (.cells #[.int .i64 kd, .int .i64 I, .string (str s), .int .u64 (keep : Int)] 36)).heap.size := by simp
  have hP : BothD w0 q r S S [w.heap.size] (w.alloc (.cells #[.int .i64 kd, .int .i64 I, .string (str s), .int .u64 (keep : Int)] 36)) := h.pin ((Below.refl _ w).alloc (Nat.le_refl _) _) (fun k hk => by simp at hk; subst hk; simp)
  have hq := blk_new w (.cells #[.int .i64 kd, .int .i64 I, .string (str s), .int .u64 (keep : Int)] 36)
  obtain ⟨wb, hwb⟩ : ∃ wb, w.alloc (.cells #[.int .i64 kd, .int .i64 I, .string (str s), .int .u64 (keep : Int)] 36) = wb := ⟨_, rfl⟩
  rw [hwb] at hP hq hbox
  have HC : Hid (∀ W, Stay [w.heap.size] wb W → W.cell? ⟨w.heap.size, 0, none⟩ = some (.int .i64 kd) ∧ W.cell? ⟨w.heap.size, 1, none⟩ = some (.int .i64 I) ∧ W.cell? ⟨w.heap.size, 2, none⟩ = some (.string (str s)) ∧ W.cell? ⟨w.heap.size, 3, none⟩ = some (.int .u64 (keep : Int))) := fun W hW => by
    have hb := (hW w.heap.size (by simp)).trans hq
    exact ⟨blk_cell hb 0, blk_cell hb 1, blk_cell hb 2, blk_cell hb 3⟩
  obtain ⟨c0, c1, c2, c3⟩ := HC.out wb (Stay.refl _ _)
  have HP := Lib.hid hP
  have hfs := fit_step hf (kd, I, s, keep)
  obtain ⟨S2, hS2⟩ : ∃ S2, stepD S (kd, I, s, keep) = S2 := ⟨_, rfl⟩
  rw [hS2] at hfs ⊢
  have HF := Lib.hid (hf.mono (show 790000 ≤ 800000 by omega))
  have HF2 := Lib.hid (hfs.mono (show 790000 + 2 ≤ 800000 by omega))
  clear hP hq hf hfs h
  obtain ⟨ra, re, hrd⟩ : ∃ a b, readD S2 I = (a, b) := ⟨_, _, rfl⟩
  have CRB := Lib.hid (fun W (hW : BothD w0 q r S2 S2 [w.heap.size] W) => tReadB hW HF2.out HF2.out (i := I) h3 h4)
  have CRR := Lib.hid (fun W (hW : BothD w0 q r S2 S2 [w.heap.size] W) => tReadR hW HF2.out HF2.out (i := I) h3 h4)
  rw [hrd] at CRB CRR
  clear hrd
  by_cases k0 : kd = 0
  · have t0 : (kd == 0) = true := by simpa using k0
    obtain ⟨cd, T, hw⟩ : ∃ cd T, writeD S I s = (cd, T) := ⟨_, _, rfl⟩
    have e : T = S2 := by rw [← hS2]; unfold stepD; rw [if_pos k0]; simp [hw]
    subst e
    have CB1 := Lib.hid (fun W (hW : BothD w0 q r S S [w.heap.size] W) => tWriteB hW HF.out HF.out (i := I) (s := s) h3 h4 h5)
    have CB2 := Lib.hid (fun W (hW : BothD w0 q r S T [w.heap.size] W) => tWriteB hW HF.out HF2.out (i := I) (s := s) h3 h4 h5)
    have CR1 := Lib.hid (fun W (hW : BothD w0 q r S S [w.heap.size] W) => tWriteR hW HF.out HF.out (i := I) (s := s) h3 h4 h5)
    have CR2 := Lib.hid (fun W (hW : BothD w0 q r T S [w.heap.size] W) => tWriteR hW HF2.out HF.out (i := I) (s := s) h3 h4 h5)
    rw [hw] at CB1 CB2 CR1 CR2
    clear hw hS2 k0
    go_enter Try.func12, Try.ntmps12
    go_wp2_with fail
    go_region_law (first
      | (go_simp; go_at_call 19; refine (CB1.out _ (by first | exact HP.out | exact HP.out.drew | exact HP.out.drew.drew)).mono ?_; rintro e v3 ⟨rfl, hx, hst⟩; have HB1 := Lib.hid (And.intro hx (show Stay [w.heap.size] wb v3 from hst)); obtain ⟨y0, y1, y2, y3⟩ := HC.out _ hst; clear hx hst; dsimp only)
      | (go_simp; go_at_call 23; refine (CR2.out _ (by first | exact HB1.out.1 | exact HB1.out.1.drew | exact HB1.out.1.drew.drew)).mono ?_; rintro e v4 ⟨rfl, hx, hst⟩; have HT := Lib.hid (And.intro hx (HB1.out.2.trans hst)); obtain ⟨y0, y1, y2, y3⟩ := HC.out _ (HB1.out.2.trans hst); clear hx hst; dsimp only)
      | (go_simp; go_at_call 23; refine (CR1.out _ (by first | exact HP.out | exact HP.out.drew | exact HP.out.drew.drew)).mono ?_; rintro e v3 ⟨rfl, hx, hst⟩; have HR1 := Lib.hid (And.intro hx (show Stay [w.heap.size] wb v3 from hst)); obtain ⟨y0, y1, y2, y3⟩ := HC.out _ hst; clear hx hst; dsimp only)
      | (go_simp; go_at_call 19; refine (CB2.out _ (by first | exact HR1.out.1 | exact HR1.out.1.drew | exact HR1.out.1.drew.drew)).mono ?_; rintro e v4 ⟨rfl, hx, hst⟩; have HT := Lib.hid (And.intro hx (HR1.out.2.trans hst)); obtain ⟨y0, y1, y2, y3⟩ := HC.out _ (HR1.out.2.trans hst); clear hx hst; dsimp only))
    all_goals
      go_wp2_with fail
      go_ret
      exact ⟨by simp [go_sem], by first | exact HT.out.1.free | exact HT.out.1.free.drew⟩
  · by_cases k1 : kd = 1
    · have t0 : (kd == 0) = false := by simpa using k0
      have t1 : (kd == 1) = true := by simpa using k1
      obtain ⟨cd, T, hw⟩ : ∃ cd T, flushD S = (cd, T) := ⟨_, _, rfl⟩
      have e : T = S2 := by rw [← hS2]; unfold stepD; simp [k1, hw]
      subst e
      have CB1 := Lib.hid (fun W (hW : BothD w0 q r S S [w.heap.size] W) => tFlushB hW HF.out HF.out )
      have CR2 := Lib.hid (fun W (hW : BothD w0 q r T S [w.heap.size] W) => tFlushR hW HF2.out HF.out )
      rw [hw] at CB1 CR2
      clear hw hS2 k0 k1
      go_enter Try.func12, Try.ntmps12
      go_wp2_with (first
        | (go_at_call 20; refine (CB1.out _ HP.out).mono ?_; rintro e v3 ⟨rfl, hx, hst⟩; have HB1 := Lib.hid (And.intro hx (show Stay [w.heap.size] wb v3 from hst)); obtain ⟨y0, y1, y2, y3⟩ := HC.out _ hst; clear hx hst; dsimp only)
        | (go_at_call 24; refine (CR2.out _ HB1.out.1).mono ?_; rintro e v4 ⟨rfl, hx, hst⟩; have HT := Lib.hid (And.intro hx (HB1.out.2.trans hst)); obtain ⟨x0, x1, x2, x3⟩ := HC.out _ (HB1.out.2.trans hst); clear hx hst; dsimp only))
      go_ret
      exact ⟨by simp [go_sem], HT.out.1.free⟩
    · by_cases k2 : kd = 2
      · have t0 : (kd == 0) = false := by simpa using k0
        have t1 : (kd == 1) = false := by simpa using k1
        have t2 : (kd == 2) = true := by simpa using k2
        obtain ⟨T, hw⟩ : ∃ T, cutD S I keep = T := ⟨_, rfl⟩
        have e : T = S2 := by rw [← hS2]; unfold stepD; simp [k2, hw]
        subst e
        have CB1 := Lib.hid (fun W (hW : BothD w0 q r S S [w.heap.size] W) => tCutB hW HF.out HF.out (n := I) (keep := keep) h3 h4 h6)
        have CR2 := Lib.hid (fun W (hW : BothD w0 q r T S [w.heap.size] W) => tCutR hW HF2.out HF.out (n := I) (keep := keep) h3 h4 h6)
        rw [hw] at CB1 CR2
        clear hw hS2 k0 k1 k2
        go_enter Try.func12, Try.ntmps12
        go_wp2_with (first
          | (go_at_call 22; refine (CB1.out _ HP.out).mono ?_; rintro e v3 ⟨rfl, hx, hst⟩; have HB1 := Lib.hid (And.intro hx (show Stay [w.heap.size] wb v3 from hst)); obtain ⟨y0, y1, y2, y3⟩ := HC.out _ hst; clear hx hst; dsimp only)
          | (go_at_call 25; refine (CR2.out _ HB1.out.1).mono ?_; rintro e v4 ⟨rfl, hx, hst⟩; have HT := Lib.hid (And.intro hx (HB1.out.2.trans hst)); obtain ⟨x0, x1, x2, x3⟩ := HC.out _ (HB1.out.2.trans hst); clear hx hst; dsimp only)
          | (go_at_call 17; refine (CRB.out _ HT.out.1).mono ?_; rintro e v5 ⟨rfl, hx, hb⟩; have HT5 := Lib.hid hx; obtain ⟨z0, z1, z2, z3⟩ := HC.out _ (HT.out.2.trans (fun k hk => hb.block k (by simp at hk; subst hk; exact HT.out.1.lt))); clear hx hb; dsimp only)
          | (go_at_call 18; refine (CRR.out _ HT5.out).mono ?_; rintro e v6 ⟨rfl, rfl⟩; dsimp only))
        go_ret
        exact ⟨by simp [go_sem], HT5.out.free⟩
      · by_cases k3 : kd = 3
        · have t0 : (kd == 0) = false := by simpa using k0
          have t1 : (kd == 1) = false := by simpa using k1
          have t2 : (kd == 2) = false := by simpa using k2
          have t3 : (kd == 3) = true := by simpa using k3
          obtain ⟨T, hw⟩ : ∃ T, downD S keep = T := ⟨_, rfl⟩
          have e : T = S2 := by rw [← hS2]; unfold stepD; simp [k3, hw]
          subst e
          have CB1 := Lib.hid (fun W (hW : BothD w0 q r S S [w.heap.size] W) => tCrashB hW HF.out HF.out (keep := keep) h6)
          have CR2 := Lib.hid (fun W (hW : BothD w0 q r T S [w.heap.size] W) => tCrashR hW HF2.out HF.out (keep := keep) h6)
          rw [hw] at CB1 CR2
          clear hw hS2 k0 k1 k2 k3
          go_enter Try.func12, Try.ntmps12
          go_wp2_with (first
            | (go_at_call 21; refine (CB1.out _ HP.out).mono ?_; rintro e v3 ⟨rfl, hx, hst⟩; have HB1 := Lib.hid (And.intro hx (show Stay [w.heap.size] wb v3 from hst)); obtain ⟨y0, y1, y2, y3⟩ := HC.out _ hst; clear hx hst; dsimp only)
            | (go_at_call 26; refine (CR2.out _ HB1.out.1).mono ?_; rintro e v4 ⟨rfl, hx, hst⟩; have HT := Lib.hid (And.intro hx (HB1.out.2.trans hst)); obtain ⟨x0, x1, x2, x3⟩ := HC.out _ (HB1.out.2.trans hst); clear hx hst; dsimp only)
            | (go_at_call 17; refine (CRB.out _ HT.out.1).mono ?_; rintro e v5 ⟨rfl, hx, hb⟩; have HT5 := Lib.hid hx; obtain ⟨z0, z1, z2, z3⟩ := HC.out _ (HT.out.2.trans (fun k hk => hb.block k (by simp at hk; subst hk; exact HT.out.1.lt))); clear hx hb; dsimp only)
            | (go_at_call 18; refine (CRR.out _ HT5.out).mono ?_; rintro e v6 ⟨rfl, rfl⟩; dsimp only))
          go_ret
          exact ⟨by simp [go_sem], HT5.out.free⟩
        · by_cases k4 : kd = 4
          · have t0 : (kd == 0) = false := by simpa using k0
            have t1 : (kd == 1) = false := by simpa using k1
            have t2 : (kd == 2) = false := by simpa using k2
            have t3 : (kd == 3) = false := by simpa using k3
            have t4 : (kd == 4) = true := by simpa using k4
            obtain ⟨T, hw⟩ : ∃ T, powerD S = T := ⟨_, rfl⟩
            have e : T = S2 := by rw [← hS2]; unfold stepD; simp [k4, hw]
            subst e
            have CB1 := Lib.hid (fun W (hW : BothD w0 q r S S [w.heap.size] W) => tPowerB hW HF.out HF.out )
            have CR2 := Lib.hid (fun W (hW : BothD w0 q r T S [w.heap.size] W) => tPowerR hW HF2.out HF.out )
            rw [hw] at CB1 CR2
            clear hw hS2 k0 k1 k2 k3 k4
            go_enter Try.func12, Try.ntmps12
            go_wp2_with (first
              | (go_at_call 15; refine (CB1.out _ HP.out).mono ?_; rintro e v3 ⟨rfl, hx, hst⟩; have HB1 := Lib.hid (And.intro hx (show Stay [w.heap.size] wb v3 from hst)); obtain ⟨y0, y1, y2, y3⟩ := HC.out _ hst; clear hx hst; dsimp only)
              | (go_at_call 16; refine (CR2.out _ HB1.out.1).mono ?_; rintro e v4 ⟨rfl, hx, hst⟩; have HT := Lib.hid (And.intro hx (HB1.out.2.trans hst)); obtain ⟨x0, x1, x2, x3⟩ := HC.out _ (HB1.out.2.trans hst); clear hx hst; dsimp only)
              | (go_at_call 17; refine (CRB.out _ HT.out.1).mono ?_; rintro e v5 ⟨rfl, hx, hb⟩; have HT5 := Lib.hid hx; obtain ⟨z0, z1, z2, z3⟩ := HC.out _ (HT.out.2.trans (fun k hk => hb.block k (by simp at hk; subst hk; exact HT.out.1.lt))); clear hx hb; dsimp only)
              | (go_at_call 18; refine (CRR.out _ HT5.out).mono ?_; rintro e v6 ⟨rfl, rfl⟩; dsimp only))
            go_ret
            exact ⟨by simp [go_sem], HT5.out.free⟩
          · have t0 : (kd == 0) = false := by simpa using k0
            have t1 : (kd == 1) = false := by simpa using k1
            have t2 : (kd == 2) = false := by simpa using k2
            have t3 : (kd == 3) = false := by simpa using k3
            have t4 : (kd == 4) = false := by simpa using k4
            have e : S = S2 := by rw [← hS2]; unfold stepD; simp [k0, k1, k2, k3, k4]
            subst e
            have HT := Lib.hid (And.intro HP.out (Stay.refl [w.heap.size] wb))
            clear hS2 k0 k1 k2 k3 k4
            go_enter Try.func12, Try.ntmps12
            go_wp2_with (first
              | (go_at_call 17; refine (CRB.out _ HT.out.1).mono ?_; rintro e v5 ⟨rfl, hx, hb⟩; have HT5 := Lib.hid hx; obtain ⟨z0, z1, z2, z3⟩ := HC.out _ (HT.out.2.trans (fun k hk => hb.block k (by simp at hk; subst hk; exact HT.out.1.lt))); clear hx hb; dsimp only)
              | (go_at_call 18; refine (CRR.out _ HT5.out).mono ?_; rintro e v6 ⟨rfl, rfl⟩; dsimp only))
            go_ret
            exact ⟨by simp [go_sem], HT5.out.free⟩
end Go.Proofs.Ytndmndchbfmppaa
