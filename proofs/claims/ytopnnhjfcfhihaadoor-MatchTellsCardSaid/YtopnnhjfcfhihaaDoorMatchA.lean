/-
  Layer 5 (match): what All returns, the program's and the document's; whether labels are large.
-/
import Derived.Test.YtopnnhjfcfhihaaDoorMatchO
import Derived.Test.YtopnnhjfcfhihaaDoorMatchRefO
namespace Go.Proofs.YtopnnhjfcfhihaaDoor
open Go.RowKit Go.Deep
attribute [local go_sem] str_size str_append str_toList str_get str_extract
set_option linter.unusedVariables false
set_option linter.unusedSimpArgs false
def allL (ms : List Mat) (l : List Lab) : Bool := ms.all fun m => oneL m l
theorem drop_all {α : Type} (p : α → Bool) (l : List α) (i : Nat) (h : i < l.length) : (l.drop i).all p = (p l[i] && (l.drop (i + 1)).all p) := by
  rw [List.drop_eq_getElem_cons h, List.all_cons]
theorem large_c (A : Option Addr) (len cap : Nat) (l : List Lab) (w : World) (hl : len ≤ 9223372036854775807) (hA : LAt w A len l) :
    Calls Tryd.prog 7 #[.slice A len cap] w fun e w' => e = .returned (.bool (heavyL l)) ∧ Below w.heap.size w w' := by
  have hle := hA.1
  subst hle
  obtain ⟨R, hR⟩ : ∃ R, heavyL l = R := ⟨_, rfl⟩
  rw [hR]
  have HR := Lib.hid hR
  clear hR
  go_enter Tryd.func7, Tryd.ntmps7
  go_wp2_with fail
  go_loopw [3, 4] (fun a c wr => ∃ i n : Nat, i ≤ l.length ∧ c = .int .i64 i ∧ a = .int .i64 n ∧ Hid (n ≤ 2048 → n = l.length + sizeL (l.take i)) ∧ Hid (2048 < n → 2048 < l.length + sizeL l) ∧ n ≤ 4194304 ∧ Below w.heap.size w wr) (fun _ c _ => l.length - (intOf c).toNat)
  case atStart =>
    refine ⟨0, min l.length 1048576, Nat.zero_le _, rfl, ?_, ?_, ?_, by omega, Below.refl _ _⟩
    · simp; omega
    · show _ → _; intro h; simp [sizeL]; omega
    · show _ → _; intro h; omega
  case round =>
    obtain ⟨i, n, hi, rfl, rfl, H1, H2, hn, hb⟩ := hrel
    by_cases hlt : i < l.length
    · by_cases hg : (n : Int) ≤ 2048
      · obtain ⟨⟨r1, r2⟩, ad, rfl, h2, h3, h4⟩ := (hA.below hb).2 i hlt
        have hst := sizeL_take l i hlt
        have hle := sizeL_take_le l (i + 1)
        obtain ⟨a, ha⟩ : ∃ a, l[i].1.length = a := ⟨_, rfl⟩
        obtain ⟨b, hbb⟩ : ∃ b, l[i].2.length = b := ⟨_, rfl⟩
        rw [ha] at hst r1
        rw [hbb] at hst r2
        obtain ⟨m, hm⟩ : ∃ m, m = n + (min a 1048576 + min b 1048576) := ⟨_, rfl⟩
        have e1 := H1.out (by omega)
        have HM : Hid ((m ≤ 2048 → m = l.length + sizeL (l.take (i + 1))) ∧ (2048 < m → 2048 < l.length + sizeL l)) := ⟨by omega, by omega⟩
        have hm2 : m ≤ 4194304 := by omega
        have em : (n : Int) + (min (a : Int) 1048576 + min (b : Int) 1048576) = (m : Int) := by omega
        clear e1 hst hle hm
        go_wp2_with fail
        go_quiet (fail)
        go_wp2_with fail
        go_roundw
        case rel => exact ⟨i + 1, m, by omega, by go_num, by first | rfl | (rw [← em]; rfl), HM.out.1, HM.out.2, hm2, below_drewN hb _⟩
        case measure => simp [intOf]; omega
      · have e : heavyL l = true := by
          unfold heavyL; have := H2.out (by omega); simpa using this
        rw [HR.out] at e
        subst e
        have t1 : 2048 < (n : Int) := by omega
        go_wp2_with fail
        go_ret
        exact ⟨rfl, hb⟩
    · obtain rfl : i = l.length := by omega
      have h1 := H1.out
      have h2 := H2.out
      rw [List.take_length] at h1
      by_cases hg : 2048 < (n : Int)
      · have e : heavyL l = true := by
          unfold heavyL; simp; omega
        rw [HR.out] at e
        subst e
        clear h1 h2
        go_wp2_with fail
        go_ret
        exact ⟨rfl, hb⟩
      · have e : heavyL l = false := by
          unfold heavyL; simp; omega
        rw [HR.out] at e
        subst e
        clear h1 h2
        go_wp2_with fail
        go_ret
        exact ⟨rfl, hb⟩
theorem large_small {l : List Lab} (h : heavyL l = false) : l.length ≤ 2048 ∧ ∀ x ∈ l, x.1.length ≤ 4096 ∧ x.2.length ≤ 4096 := by
  have h1 : l.length + sizeL l ≤ 2048 := by unfold heavyL at h; simpa using h
  refine ⟨by omega, fun x hx => ?_⟩
  have := sizeL_mem l x hx
  omega
set_option maxHeartbeats 1000000 in
theorem all_c (A : Option Addr) (len cap : Nat) (ms : List Mat) (B : Option Addr) (lenB capB : Nat) (l : List Lab) (w : World) (hl : len ≤ 9223372036854775807) (hM : MsAt w A len ms)
    (hlB : lenB ≤ 140737488355328) (hB : LAt w B lenB l) (hz : ∀ x ∈ l, x.1.length ≤ 4096 ∧ x.2.length ≤ 4096) :
    Calls Tryd.prog 12 #[.slice A len cap, .slice B lenB capB] w fun e w' => e = .returned (.bool (allL ms l)) ∧ Below w.heap.size w w' := by
  have hle := hM.1
  subst hle
  obtain ⟨R, hR⟩ : ∃ R, allL ms l = R := ⟨_, rfl⟩
  rw [hR]
  unfold allL at hR
  have HR := Lib.hid hR
  clear hR
  go_enter Tryd.func12, Tryd.ntmps12
  go_wp2_with fail
  go_loopw [9] (fun c wr => ∃ i : Nat, i ≤ ms.length ∧ c = .int .i64 i ∧ Hid ((ms.drop i).all (fun m => oneL m l) = R) ∧ Below w.heap.size w wr) (fun c _ => ms.length - (intOf c).toNat)
  case atStart => exact ⟨0, Nat.zero_le _, rfl, HR.out, Below.refl _ _⟩
  case round =>
    obtain ⟨i, hi, rfl, HI, hb⟩ := hrel
    have hsz := hb.size
    by_cases hlt : i < ms.length
    · obtain ⟨⟨r1, r2, r3, r4, r5⟩, ad, rfl, h2, h3, h4, h5, S, cS, h6, h7⟩ := (hM.below hb).2 i hlt
      have hst := drop_all (fun m => oneL m l) ms i hlt
      rw [HI.out] at hst
      obtain ⟨m, hm⟩ : ∃ m, ms[i]'hlt = m := ⟨_, rfl⟩
      rw [hm] at h3 h4 h5 h6 h7 r1 r2 r3 r4 r5 hst
      clear hm
      have HL := Lib.hid (hB.below hb)
      have HS := Lib.hid h7
      clear h7
      have hbc := (Below.refl wr.heap.size wr).alloc (Nat.le_refl _) (.cells #[.int .i64 m.1, .string (str m.2.1), .string (str m.2.2.1), .slice S m.2.2.2.length cS] 30)
      have c1 := fun W h h' => one_c m S cS B lenB capB l W r3 h hlB h' hz
      cases hq : oneL m l with
      | true =>
        rw [hq] at c1 hst
        have HE : Hid ((ms.drop (i + 1)).all (fun m => oneL m l) = R) := by show _ = _; rw [hst]; rfl
        clear hst hq
        go_wp2_with (go_at_call 10; refine (c1 _ (HS.out.below hbc) (HL.out.below hbc)).mono ?_; rintro e w1 ⟨rfl, hb1⟩; have hb2 := hb.trans ((hbc.mono hsz).trans (hb1.mono (by have := hbc.size; omega))); dsimp only)
        go_roundw
        case rel => exact ⟨i + 1, by omega, by go_num, HE.out, hb2⟩
        case measure => simp [intOf]; omega
      | false =>
        rw [hq] at c1 hst
        have e : R = false := by rw [hst]; rfl
        subst e
        clear hst hq
        go_wp2_with (go_at_call 10; refine (c1 _ (HS.out.below hbc) (HL.out.below hbc)).mono ?_; rintro e w1 ⟨rfl, hb1⟩; have hb2 := hb.trans ((hbc.mono hsz).trans (hb1.mono (by have := hbc.size; omega))); dsimp only)
        go_ret
        exact ⟨rfl, hb2⟩
    · obtain rfl : i = ms.length := by omega
      have e := HI.out
      rw [List.drop_length] at e
      have e2 : R = true := e.symm
      subst e2
      clear e
      go_wp2_with fail
      go_ret
      exact ⟨rfl, hb⟩
set_option maxHeartbeats 1000000 in
theorem refAll_c (A : Option Addr) (len cap : Nat) (ms : List Mat) (B : Option Addr) (lenB capB : Nat) (l : List Lab) (w : World) (hl : len ≤ 9223372036854775807) (hM : MsAt w A len ms)
    (hlB : lenB ≤ 140737488355328) (hB : LAt w B lenB l) (hz : ∀ x ∈ l, x.1.length ≤ 4096 ∧ x.2.length ≤ 4096) :
    Calls Tryd.prog 13 #[.slice A len cap, .slice B lenB capB] w fun e w' => e = .returned (.bool (allL ms l)) ∧ Below w.heap.size w w' := by
  have hle := hM.1
  subst hle
  obtain ⟨R, hR⟩ : ∃ R, allL ms l = R := ⟨_, rfl⟩
  rw [hR]
  unfold allL at hR
  have HR := Lib.hid hR
  clear hR
  go_enter Tryd.func13, Tryd.ntmps13
  go_wp2_with fail
  go_loopw [5] (fun c wr => ∃ i : Nat, i ≤ ms.length ∧ c = .int .i64 i ∧ Hid ((ms.drop i).all (fun m => oneL m l) = R) ∧ Below w.heap.size w wr) (fun c _ => ms.length - (intOf c).toNat)
  case atStart => exact ⟨0, Nat.zero_le _, rfl, HR.out, Below.refl _ _⟩
  case round =>
    obtain ⟨i, hi, rfl, HI, hb⟩ := hrel
    have hsz := hb.size
    by_cases hlt : i < ms.length
    · obtain ⟨⟨r1, r2, r3, r4, r5⟩, ad, rfl, h2, h3, h4, h5, S, cS, h6, h7⟩ := (hM.below hb).2 i hlt
      have hst := drop_all (fun m => oneL m l) ms i hlt
      rw [HI.out] at hst
      obtain ⟨m, hm⟩ : ∃ m, ms[i]'hlt = m := ⟨_, rfl⟩
      rw [hm] at h3 h4 h5 h6 h7 r1 r2 r3 r4 r5 hst
      clear hm
      have HL := Lib.hid (hB.below hb)
      have HS := Lib.hid h7
      clear h7
      have hbc := Below.refl wr.heap.size wr
      have c1 := fun W h h' => refOne_c m S cS B lenB capB l W r3 h hlB h' hz
      cases hq : oneL m l with
      | true =>
        rw [hq] at c1 hst
        have HE : Hid ((ms.drop (i + 1)).all (fun m => oneL m l) = R) := by show _ = _; rw [hst]; rfl
        clear hst hq
        go_wp2_with (go_at_call 11; refine (c1 _ (HS.out.below hbc) (HL.out.below hbc)).mono ?_; rintro e w1 ⟨rfl, hb1⟩; have hb2 := hb.trans ((hbc.mono hsz).trans (hb1.mono (by have := hbc.size; omega))); dsimp only)
        go_roundw
        case rel => exact ⟨i + 1, by omega, by go_num, HE.out, hb2⟩
        case measure => simp [intOf]; omega
      | false =>
        rw [hq] at c1 hst
        have e : R = false := by rw [hst]; rfl
        subst e
        clear hst hq
        go_wp2_with (go_at_call 11; refine (c1 _ (HS.out.below hbc) (HL.out.below hbc)).mono ?_; rintro e w1 ⟨rfl, hb1⟩; have hb2 := hb.trans ((hbc.mono hsz).trans (hb1.mono (by have := hbc.size; omega))); dsimp only)
        go_ret
        exact ⟨rfl, hb2⟩
    · obtain rfl : i = ms.length := by omega
      have e := HI.out
      rw [List.drop_length] at e
      have e2 : R = true := e.symm
      subst e2
      clear e
      go_wp2_with fail
      go_ret
      exact ⟨rfl, hb⟩
end Go.Proofs.YtopnnhjfcfhihaaDoor
