/-
  Layer 5 (match): whether matchers are heavy; two rows of matchers compared.
-/
import Derived.Test.YtopnnhjfcfhihaaDoorMatchForm
namespace Go.Proofs.YtopnnhjfcfhihaaDoor
open Go.RowKit Go.Deep
attribute [local go_sem] str_size str_append str_toList str_get str_extract
set_option linter.unusedVariables false
set_option linter.unusedSimpArgs false
def sizeS (s : List (List UInt8)) : Nat := (s.map List.length).sum
theorem sizeS_append (a b : List (List UInt8)) : sizeS (a ++ b) = sizeS a + sizeS b := by simp [sizeS]
theorem sizeS_take (s : List (List UInt8)) (i : Nat) (h : i < s.length) : sizeS (s.take (i + 1)) = sizeS (s.take i) + s[i].length := by
  rw [List.take_succ_eq_append_getElem h, sizeS_append]; simp [sizeS]
theorem sizeS_take_le (s : List (List UInt8)) (i : Nat) : sizeS (s.take i) ≤ sizeS s := by
  have h : sizeS s = sizeS (s.take i) + sizeS (s.drop i) := by
    unfold sizeS; rw [← List.sum_append, ← List.map_append, List.take_append_drop]
  omega
theorem sizeS_mem (s : List (List UInt8)) : ∀ x ∈ s, x.length ≤ sizeS s := by
  induction s with
  | nil => intro x h; simp at h
  | cons y r ih =>
    intro x h
    simp only [sizeS, List.map_cons, List.sum_cons]
    rcases List.mem_cons.1 h with rfl | h
    · omega
    · have := ih x h; simp only [sizeS] at this; omega
def sizeM (m : Mat) : Nat := m.2.1.length + m.2.2.1.length + m.2.2.2.length + sizeS m.2.2.2
def sizeMs (l : List Mat) : Nat := (l.map sizeM).sum
theorem sizeMs_append (a b : List Mat) : sizeMs (a ++ b) = sizeMs a + sizeMs b := by simp [sizeMs]
theorem sizeMs_take (s : List Mat) (i : Nat) (h : i < s.length) : sizeMs (s.take (i + 1)) = sizeMs (s.take i) + sizeM s[i] := by
  rw [List.take_succ_eq_append_getElem h, sizeMs_append]; simp [sizeMs]
theorem sizeMs_take_le (s : List Mat) (i : Nat) : sizeMs (s.take i) ≤ sizeMs s := by
  have h : sizeMs s = sizeMs (s.take i) + sizeMs (s.drop i) := by
    unfold sizeMs; rw [← List.sum_append, ← List.map_append, List.take_append_drop]
  omega
theorem sizeMs_mem (s : List Mat) : ∀ x ∈ s, sizeM x ≤ sizeMs s := by
  induction s with
  | nil => intro x h; simp at h
  | cons y r ih =>
    intro x h
    simp only [sizeMs, List.map_cons, List.sum_cons]
    rcases List.mem_cons.1 h with rfl | h
    · omega
    · have := ih x h; simp only [sizeMs] at this; omega
def heavyM (l : List Mat) : Bool := decide (2048 < l.length + sizeMs l)
theorem heavyM_not {l : List Mat} (h : heavyM l = false) : l.length + sizeMs l ≤ 2048 := by unfold heavyM at h; simpa using h
theorem heavyM_small {l : List Mat} (h : heavyM l = false) : l.length ≤ 2048 ∧ ∀ m ∈ l, smallM m := by
  have h1 := heavyM_not h
  refine ⟨by omega, fun m hm => ?_⟩
  have := sizeMs_mem l m hm
  unfold sizeM at this
  exact ⟨by omega, by omega, by omega, fun x hx => by have := sizeS_mem _ x hx; omega⟩
set_option maxRecDepth 100000 in
set_option maxHeartbeats 1000000 in
theorem heavyM_c (A : Option Addr) (len cap : Nat) (l : List Mat) (w : World) (hl : len ≤ 9223372036854775807) (hA : MsAt w A len l) :
    Calls Tryd.prog 6 #[.slice A len cap] w fun e w' => e = .returned (.bool (heavyM l)) ∧ Below w.heap.size w w' := by
  have hle := hA.1
  subst hle
  obtain ⟨R, hR⟩ : ∃ R, heavyM l = R := ⟨_, rfl⟩
  rw [hR]
  have HR := Lib.hid hR
  clear hR
  go_enter Tryd.func6, Tryd.ntmps6
  go_wp2_with fail
  go_loopw [3, 4] (fun a c wr => ∃ i n : Nat, i ≤ l.length ∧ c = .int .i64 i ∧ a = .int .i64 n ∧ Hid (n ≤ 2048 → n = l.length + sizeMs (l.take i)) ∧ Hid (2048 < n → 2048 < l.length + sizeMs l) ∧ n ≤ 8388608 ∧ Below w.heap.size w wr) (fun _ c _ => l.length - (intOf c).toNat)
  case atStart =>
    refine ⟨0, min l.length 1048576, Nat.zero_le _, rfl, ?_, ?_, ?_, by omega, Below.refl _ _⟩
    · simp; omega
    · show _ → _; intro h; simp [sizeMs]; omega
    · show _ → _; intro h; omega
  case round =>
    obtain ⟨i, n, hi, rfl, rfl, H1, H2, hn, hb⟩ := hrel
    by_cases hlt : i < l.length
    · by_cases hg : (n : Int) ≤ 2048
      · obtain ⟨⟨r1, r2, r3, -, -⟩, ad, rfl, h2, h3, h4, h5, S, cS, h6, h7⟩ := (hA.below hb).2 i hlt
        have hst := sizeMs_take l i hlt
        have hle := sizeMs_take_le l (i + 1)
        obtain ⟨M, hM⟩ : ∃ M, l[i]'hlt = M := ⟨_, rfl⟩
        rw [hM] at r1 r2 r3 h3 h4 h5 h6 h7 hst
        clear hM
        obtain ⟨k, nm, v, s⟩ := M
        unfold sizeM at hst
        simp only at r1 r2 r3 h3 h4 h5 h6 h7 hst
        obtain ⟨a, ha⟩ : ∃ a, nm.length = a := ⟨_, rfl⟩
        obtain ⟨b, hbb⟩ : ∃ b, v.length = b := ⟨_, rfl⟩
        obtain ⟨c, hc⟩ : ∃ c, s.length = c := ⟨_, rfl⟩
        rw [ha] at hst r1
        rw [hbb] at hst r2
        rw [hc] at hst r3 h6 h7
        obtain ⟨m, hm⟩ : ∃ m, m = n + (min a 1048576 + min b 1048576 + min c 1048576) := ⟨_, rfl⟩
        have e1 := H1.out (by omega)
        have hsl := sizeS_take_le s
        have HM : Hid ((m ≤ 2048 → m = l.length + sizeMs (l.take i) + (a + b + c) + sizeS (s.take 0)) ∧ (2048 < m → 2048 < l.length + sizeMs l)) := by
          have : sizeS (s.take 0) = 0 := by simp [sizeS]
          constructor <;> intro h <;> omega
        have hm2 : m ≤ 4194304 := by omega
        have em : (n : Int) + (min (a : Int) 1048576 + min (b : Int) 1048576 + min (c : Int) 1048576) = (m : Int) := by omega
        have HST : Hid (sizeMs (l.take (i + 1)) = sizeMs (l.take i) + (a + b + c + sizeS s) ∧ sizeMs (l.take (i + 1)) ≤ sizeMs l ∧ s.length = c ∧ StrsAt wr S c s) := ⟨hst, hle, hc, h7⟩
        have HSL := Lib.hid hsl
        clear e1 hst hle hm hsl h7 hc H1 H2
        go_wp2_with fail
        go_quiet (fail)
        go_wp2_with fail
        obtain ⟨wo, rfl⟩ : ∃ wo : World, wo = wr := ⟨_, rfl⟩
        go_loopw [3, 5] (fun x y wi => ∃ j m : Nat, j ≤ c ∧ y = .int .i64 j ∧ x = .int .i64 m ∧ Hid ((m ≤ 2048 → m = l.length + sizeMs (l.take i) + (a + b + c) + sizeS (s.take j)) ∧ (2048 < m → 2048 < l.length + sizeMs l)) ∧ m ≤ 4194304 ∧ ∃ q, wi = wo.drewN q) (fun _ y _ => c - (intOf y).toNat)
        case atStart => exact ⟨0, m, Nat.zero_le _, rfl, by first | rfl | (rw [← em]; rfl), HM.out, hm2, _, rfl⟩
        case round =>
          clear em hm2 HM
          obtain ⟨j, m, hj, rfl, rfl, HJ, hm3, q, rfl⟩ := hrel
          by_cases hjc : j < c
          · by_cases hg2 : (m : Int) ≤ 2048
            · obtain ⟨x1, aq, rfl, x2, x3⟩ := HST.out.2.2.2.2 j (by have := HST.out.2.2.1; omega)
              have hsj := sizeS_take s j (by have := HST.out.2.2.1; omega)
              have hsl := HSL.out (j + 1)
              obtain ⟨d, hd⟩ : ∃ d, s[j]'(by have := HST.out.2.2.1; omega) = d := ⟨_, rfl⟩
              rw [hd] at x1 x3 hsj
              obtain ⟨dl, hdl⟩ : ∃ dl, d.length = dl := ⟨_, rfl⟩
              rw [hdl] at x1 hsj
              obtain ⟨m2, hm2⟩ : ∃ m2, m2 = m + min dl 1048576 := ⟨_, rfl⟩
              have em : (m : Int) + min (dl : Int) 1048576 = (m2 : Int) := by omega
              have HJ2 : Hid ((m2 ≤ 2048 → m2 = l.length + sizeMs (l.take i) + (a + b + c) + sizeS (s.take (j + 1))) ∧ (2048 < m2 → 2048 < l.length + sizeMs l)) := by
                have y1 := HJ.out.1 (by omega)
                have y2 := HST.out.1
                have y3 := HST.out.2.1
                constructor <;> intro h <;> omega
              have hm5 : m2 ≤ 4194304 := by omega
              clear hd hsj hsl hm2
              go_wp2_with fail
              go_roundw
              case rel => exact ⟨j + 1, m2, by omega, by go_num, by first | rfl | (rw [← em]; rfl), HJ2.out, hm5, _, rfl⟩
              case measure => simp [intOf]; omega
            · have H3 : Hid ((m ≤ 2048 → m = l.length + sizeMs (l.take (i + 1))) ∧ (2048 < m → 2048 < l.length + sizeMs l)) := ⟨fun h => by omega, HJ.out.2⟩
              clear HJ
              go_wp2_with fail
              go_roundw
              case rel => exact ⟨i + 1, m, by omega, by go_num, rfl, H3.out.1, H3.out.2, by omega, below_drewN hb _⟩
              case measure => simp [intOf]; omega
          · obtain rfl : j = c := by omega
            have H3 : Hid ((m ≤ 2048 → m = l.length + sizeMs (l.take (i + 1))) ∧ (2048 < m → 2048 < l.length + sizeMs l)) := by
              refine ⟨fun h => ?_, HJ.out.2⟩
              have y1 := HJ.out.1 h
              have y2 := HST.out.1
              have y4 := HST.out.2.2.1
              rw [← y4, List.take_length] at y1
              omega
            clear HJ
            go_wp2_with fail
            go_roundw
            case rel => exact ⟨i + 1, m, by omega, by go_num, rfl, H3.out.1, H3.out.2, by omega, below_drewN hb _⟩
            case measure => simp [intOf]; omega
      · have e : heavyM l = true := by
          unfold heavyM; have := H2.out (by omega); simpa using this
        rw [HR.out] at e
        subst e
        have t1 : 2048 < (n : Int) := by omega
        go_wp2_with fail
        go_ret
        exact ⟨rfl, hb⟩
    · obtain rfl : i = l.length := by omega
      have h1 := H1.out
      have h2 := H2.out
      rw [List.take_length] at h1
      by_cases hg : 2048 < (n : Int)
      · have e : heavyM l = true := by
          unfold heavyM; simp; omega
        rw [HR.out] at e
        subst e
        clear h1 h2
        go_wp2_with fail
        go_ret
        exact ⟨rfl, hb⟩
      · have e : heavyM l = false := by
          unfold heavyM; simp; omega
        rw [HR.out] at e
        subst e
        clear h1 h2
        go_wp2_with fail
        go_ret
        exact ⟨rfl, hb⟩
end Go.Proofs.YtopnnhjfcfhihaaDoor
