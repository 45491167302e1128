/-
  Layer 4 (label): a slice of labels in memory; whether it is heavy; two of them compared.
-/
import Derived.Test.YtopnnhjfcfhihaaLabelQ
import Derived.Deep.Fields
import Derived.Deep.Slices
import Derived.Deep.RegionHeld3
import Derived.OpenShut
namespace Go.Proofs.Ytopnnhjfcfhihaa
open Go.RowKit Go.Deep
attribute [local go_sem] str_size str_append str_toList str_get str_extract
set_option linter.unusedVariables false
set_option linter.unusedSimpArgs false

/-- A slice of labels that was there. -/
def LAt (w : World) (A : Option Addr) (len : Nat) (l : List Lab) : Prop :=
  len = l.length ∧ ∀ i (h : i < l.length), (l[i].1.length ≤ 9223372036854775807 ∧ l[i].2.length ≤ 9223372036854775807) ∧
    ∃ ad, A = some ad ∧ (ad.add (i * 2)).block < w.heap.size ∧ w.cell? (ad.add (i * 2)) = some (.string (str l[i].1)) ∧ w.cell? ⟨(ad.add (i * 2)).block, (ad.add (i * 2)).off + 1, none⟩ = some (.string (str l[i].2))
theorem LAt.below {w w' : World} {A : Option Addr} {len : Nat} {l : List Lab} (h : LAt w A len l) (hb : Below w.heap.size w w') : LAt w' A len l :=
  ⟨h.1, fun i hi => by
    obtain ⟨h1, ad, rfl, h2, h3, h4⟩ := h.2 i hi
    exact ⟨h1, ad, rfl, Nat.lt_of_lt_of_le h2 hb.size, (hb.cell (p := ad.add (i * 2)) h2).trans h3, (hb.cell (p := ⟨(ad.add (i * 2)).block, (ad.add (i * 2)).off + 1, none⟩) h2).trans h4⟩⟩
theorem LAt.drew {w : World} {A : Option Addr} {len : Nat} {l : List Lab} (h : LAt w A len l) : LAt w.drew A len l := h
theorem LAt.drewN {w : World} {A : Option Addr} {len : Nat} {l : List Lab} (h : LAt w A len l) (n : Nat) : LAt (w.drewN n) A len l := h
theorem LAt.nil (w : World) (A : Option Addr) : LAt w A 0 [] := ⟨rfl, fun i h => by simp at h⟩
theorem lab_cells : Try.prog.cellsOf 39 = 2 := by kernel_rfl
theorem lab_info : (Try.prog.info? 39).map (fun i => (i.zero, i.size, i.bytes)) = some (some (.agg #[.string (str []), .string (str [])]), 2, 32) := by kernel_rfl

/-! the cells of a row of labels -/
def labC : List Lab → List Value
  | [] => []
  | x :: r => .string (str x.1) :: .string (str x.2) :: labC r
theorem labC_append (l m : List Lab) : labC (l ++ m) = labC l ++ labC m := by
  induction l with
  | nil => rfl
  | cons x r ih => simp [labC, ih]
theorem labC_length (l : List Lab) : (labC l).length = 2 * l.length := by
  induction l with
  | nil => rfl
  | cons x r ih => simp [labC, ih]; omega
theorem labC_get (l : List Lab) : ∀ i (h : i < l.length), (labC l)[2 * i]? = some (.string (str l[i].1)) ∧ (labC l)[2 * i + 1]? = some (.string (str l[i].2)) := by
  induction l with
  | nil => intro i h; simp at h
  | cons x r ih =>
    intro i h
    cases i with
    | zero => exact ⟨rfl, rfl⟩
    | succ i => exact ih i (by simpa using h)
/-- A row of labels of the call's own, from block B on. -/
def HasL (B : Nat) (v : Value) (l : List Lab) (w : World) : Prop := ∃ g cap, v = .slice (some ⟨g, 0, none⟩) l.length cap ∧ w.ownsRow B 39 2 v l.length (labC l)
/-- What a row that the call owns is to others. -/
theorem own_lat {B : Nat} {v : Value} {n : Nat} {l : List Lab} {w : World} {A : Option Addr} {cap : Nat} (h : w.ownsRow B 39 2 (.slice A n cap) n (labC l)) (hn : n = l.length) (hs : ∀ x ∈ l, x.1.length ≤ 9223372036854775807 ∧ x.2.length ≤ 9223372036854775807) : LAt w A n l := by
  refine ⟨hn, fun i hi => ⟨hs _ (List.getElem_mem hi), ?_⟩⟩
  rcases h.2 with ⟨e, h0⟩ | ⟨g, c, cur, e, hg, hb, _⟩
  · omega
  · injection e with e1 e2 e3
    subst e1
    have hc := labC_get l i hi
    have h0 := h.cellAt (2 * i) (by omega)
    have h1 := h.cellAt (2 * i + 1) (by omega)
    rw [hc.1] at h0
    rw [hc.2] at h1
    have ea : (⟨g, 0, none⟩ : Addr).add (i * 2) = ⟨g, 2 * i, none⟩ := by
      unfold Addr.add
      split <;> simp_all <;> omega
    refine ⟨_, rfl, ?_, ?_, ?_⟩
    · rw [ea]; exact lt_of_block hb
    · rw [ea]; exact h0
    · rw [ea]; exact h1

/-! heavy -/
def sizeL (l : List Lab) : Nat := (l.map fun x => x.1.length + x.2.length).sum
theorem sizeL_append (a b : List Lab) : sizeL (a ++ b) = sizeL a + sizeL b := by simp [sizeL]
theorem sizeL_take (l : List Lab) (i : Nat) (h : i < l.length) : sizeL (l.take (i + 1)) = sizeL (l.take i) + (l[i].1.length + l[i].2.length) := by
  rw [List.take_succ_eq_append_getElem h, sizeL_append]; simp [sizeL]
theorem sizeL_take_le (l : List Lab) (i : Nat) : sizeL (l.take i) ≤ sizeL l := by
  have h : sizeL l = sizeL (l.take i) + sizeL (l.drop i) := by
    rw [← sizeL_append, List.take_append_drop]
  omega
theorem sizeL_mem (l : List Lab) : ∀ x ∈ l, x.1.length + x.2.length ≤ sizeL l := by
  induction l with
  | nil => intro x h; simp at h
  | cons y r ih =>
    intro x h
    simp only [sizeL, List.map_cons, List.sum_cons]
    rcases List.mem_cons.1 h with rfl | h
    · omega
    · have := ih x h; simp only [sizeL] at this; omega
def heavyL (l : List Lab) : Bool := decide (2048 < l.length + sizeL l)
theorem heavy_c (A : Option Addr) (len cap : Nat) (l : List Lab) (w : World) (hl : len ≤ 9223372036854775807) (hA : LAt w A len l) :
    Calls Try.prog 7 #[.slice A len cap] w fun e w' => e = .returned (.bool (heavyL l)) ∧ Below w.heap.size w w' := by
  have hle := hA.1
  subst hle
  obtain ⟨R, hR⟩ : ∃ R, heavyL l = R := ⟨_, rfl⟩
  rw [hR]
  have HR := Lib.hid hR
  clear hR
  go_enter Try.func7, Try.ntmps7
  go_wp2_with fail
  go_loopw [3, 4] (fun a c wr => ∃ i n : Nat, i ≤ l.length ∧ c = .int .i64 i ∧ a = .int .i64 n ∧ Hid (n ≤ 2048 → n = l.length + sizeL (l.take i)) ∧ Hid (2048 < n → 2048 < l.length + sizeL l) ∧ n ≤ 4194304 ∧ Below w.heap.size w wr) (fun _ c _ => l.length - (intOf c).toNat)
  case atStart =>
    refine ⟨0, min l.length 1048576, Nat.zero_le _, rfl, ?_, ?_, ?_, by omega, Below.refl _ _⟩
    · simp; omega
    · show _ → _; intro h; simp [sizeL]; omega
    · show _ → _; intro h; omega
  case round =>
    obtain ⟨i, n, hi, rfl, rfl, H1, H2, hn, hb⟩ := hrel
    by_cases hlt : i < l.length
    · by_cases hg : (n : Int) ≤ 2048
      · obtain ⟨⟨r1, r2⟩, ad, rfl, h2, h3, h4⟩ := (hA.below hb).2 i hlt
        have hst := sizeL_take l i hlt
        have hle := sizeL_take_le l (i + 1)
        obtain ⟨a, ha⟩ : ∃ a, l[i].1.length = a := ⟨_, rfl⟩
        obtain ⟨b, hbb⟩ : ∃ b, l[i].2.length = b := ⟨_, rfl⟩
        rw [ha] at hst r1
        rw [hbb] at hst r2
        obtain ⟨m, hm⟩ : ∃ m, m = n + (min a 1048576 + min b 1048576) := ⟨_, rfl⟩
        have e1 := H1.out (by omega)
        have HM : Hid ((m ≤ 2048 → m = l.length + sizeL (l.take (i + 1))) ∧ (2048 < m → 2048 < l.length + sizeL l)) := ⟨by omega, by omega⟩
        have hm2 : m ≤ 4194304 := by omega
        have em : (n : Int) + (min (a : Int) 1048576 + min (b : Int) 1048576) = (m : Int) := by omega
        clear e1 hst hle hm
        go_wp2_with fail
        go_quiet (fail)
        go_wp2_with fail
        go_roundw
        case rel => exact ⟨i + 1, m, by omega, by go_num, by first | rfl | (rw [← em]; rfl), HM.out.1, HM.out.2, hm2, below_drewN hb _⟩
        case measure => simp [intOf]; omega
      · have e : heavyL l = true := by
          unfold heavyL; have := H2.out (by omega); simpa using this
        rw [HR.out] at e
        subst e
        have t1 : 2048 < (n : Int) := by omega
        go_wp2_with fail
        go_ret
        exact ⟨rfl, hb⟩
    · obtain rfl : i = l.length := by omega
      have h1 := H1.out
      have h2 := H2.out
      rw [List.take_length] at h1
      by_cases hg : 2048 < (n : Int)
      · have e : heavyL l = true := by
          unfold heavyL; simp; omega
        rw [HR.out] at e
        subst e
        clear h1 h2
        go_wp2_with fail
        go_ret
        exact ⟨rfl, hb⟩
      · have e : heavyL l = false := by
          unfold heavyL; simp; omega
        rw [HR.out] at e
        subst e
        clear h1 h2
        go_wp2_with fail
        go_ret
        exact ⟨rfl, hb⟩
theorem heavy_small {l : List Lab} (h : heavyL l = false) : l.length ≤ 2048 ∧ ∀ x ∈ l, x.1.length ≤ 4096 ∧ x.2.length ≤ 4096 := by
  have h1 : l.length + sizeL l ≤ 2048 := by unfold heavyL at h; simpa using h
  refine ⟨by omega, fun x hx => ?_⟩
  have := sizeL_mem l x hx
  omega
theorem heavy_not {l : List Lab} (h : heavyL l = false) : l.length + sizeL l ≤ 2048 := by unfold heavyL at h; simpa using h
theorem refSame_c (A A' : Option Addr) (len len' cap cap' : Nat) (l m : List Lab) (w : World) (hl : l.length ≤ 100000) (hm : m.length ≤ 100000) (hA : LAt w A len l) (hB : LAt w A' len' m) :
    Calls Try.prog 9 #[.slice A len cap, .slice A' len' cap'] w fun e w' => e = .returned (.bool (decide (l = m))) ∧ Below w.heap.size w w' := by
  have hle := hA.1
  have hme := hB.1
  subst hle hme
  by_cases hlen : l.length = m.length
  · obtain ⟨r, hr⟩ : ∃ r, decide (l = m) = r := ⟨_, rfl⟩
    rw [hr]
    have HR := Lib.hid hr
    clear hr
    go_enter Try.func9, Try.ntmps9
    go_wp2_with fail
    go_loopw [5] (fun c wr => ∃ i : Nat, i ≤ l.length ∧ c = .int .i64 i ∧ Hid (l.take i = m.take i) ∧ Below w.heap.size w wr) (fun c _ => l.length - (intOf c).toNat)
    case atStart => exact ⟨0, Nat.zero_le _, rfl, rfl, Below.refl _ _⟩
    case round =>
      obtain ⟨i, hi, rfl, heq, hb⟩ := hrel
      by_cases hlt : i < l.length
      · obtain ⟨⟨r1, r2⟩, ad, rfl, h2, h3, h4⟩ := (hA.below hb).2 i hlt
        obtain ⟨⟨s1, s2⟩, ad', rfl, k2, k3, k4⟩ := (hB.below hb).2 i (by omega)
        by_cases hq : l[i] = m[i]
        · have h5 : (l[i].1 == m[i].1) = true := by rw [hq]; simp
          have h6 : (l[i].2 == m[i].2) = true := by rw [hq]; simp
          have HQ := Lib.hid hq
          clear hq
          go_wp2_with fail
          go_quiet (fail)
          go_wp2_with fail
          go_roundw
          case rel =>
            refine ⟨i + 1, by omega, by go_num, ?_, below_drewN hb _⟩
            show _ = _
            rw [List.take_succ_eq_append_getElem hlt, List.take_succ_eq_append_getElem (by omega), heq.out, HQ.out]
          case measure => simp [intOf]; omega
        · have he : decide (l = m) = false := by
            apply decide_eq_false
            rintro rfl
            exact hq rfl
          rw [HR.out] at he
          have HE := Lib.hid he
          clear he
          by_cases hq1 : l[i].1 = m[i].1
          · have h5 : (l[i].1 == m[i].1) = true := by simpa using hq1
            have h6 : (l[i].2 == m[i].2) = false := by
              rw [beq_eq_false_iff_ne]
              exact fun h => hq (Prod.ext hq1 h)
            clear hq hq1
            go_wp2_with fail
            go_quiet (fail)
            go_wp2_with fail
            go_ret
            exact ⟨ret_bool HE.out.symm, below_drewN hb _⟩
          · have h5 : (l[i].1 == m[i].1) = false := by rw [beq_eq_false_iff_ne]; exact hq1
            clear hq hq1
            go_wp2_with fail
            go_quiet (fail)
            go_wp2_with fail
            go_ret
            exact ⟨ret_bool HE.out.symm, below_drewN hb _⟩
      · obtain rfl : i = l.length := by omega
        have he : decide (l = m) = true := by
          have h := heq.out
          rw [List.take_length, hlen, List.take_length] at h
          exact decide_eq_true h
        rw [HR.out] at he
        have HE := Lib.hid he
        clear he
        go_wp2_with fail
        go_ret
        exact ⟨ret_bool HE.out.symm, hb⟩
  · have he : decide (l = m) = false := by
      apply decide_eq_false; intro e; exact hlen (by rw [e])
    rw [he]
    go_enter Try.func9, Try.ntmps9
    go_wp2_with fail
    go_ret
    exact ⟨rfl, Below.refl _ _⟩
end Go.Proofs.Ytopnnhjfcfhihaa
