/-
  Layer 4 (label): the law LabelQuotes returns true.
-/
import Derived.Test.YtejmkboballonaaLabelR
namespace Go.Proofs.Ytejmkboballonaa
open Go.RowKit Go.Deep
attribute [local go_sem] str_size str_append str_toList str_get str_extract
set_option linter.unusedVariables false
set_option linter.unusedSimpArgs false
theorem law_LabelQuotes (a0 : ByteArray) (a1 : ByteArray) (w : World) (w0 : a0.size ≤ maxLen) (w1 : a1.size ≤ maxLen) :
    Calls Try.prog 4 #[.string a0, .string a1] w fun e w' => e = .returned (.bool true) ∧ Below w.heap.size w w' := by
  obtain ⟨a, rfl⟩ := str_of a0
  obtain ⟨b, rfl⟩ := str_of a1
  rw [str_size] at w0 w1
  unfold maxLen at w0 w1
  by_cases hs : 1024 < (a.length : Int)
  · go_enter Try.func4, Try.ntmps4
    go_wp2
    go_ret
    exact ⟨rfl, Below.refl _ _⟩
  by_cases hs2 : 1024 < (b.length : Int)
  · go_enter Try.func4, Try.ntmps4
    go_wp2
    go_ret
    exact ⟨rfl, Below.refl _ _⟩
  obtain ⟨d, hd⟩ : ∃ d, (a == b) = d := ⟨_, rfl⟩
  have hd2 : (quoteL a == quoteL b) = d := by
    rw [← hd, Bool.eq_iff_iff]
    simp only [beq_iff_eq]
    exact ⟨quoteL_inj, fun h => by rw [h]⟩
  have hqd := quotedL_quote a b
  have h10 := quoteL_10 a
  have hql := quoteL_len a
  have hq2 : 2 ≤ (quoteL a).length := by simp [quoteL]
  have c1 := fun W => quote_c a W (by omega)
  have c2 := fun W => quote_c b W (by omega)
  have c3 := fun W => refQuote_c a W (by omega)
  obtain ⟨Q, hQ⟩ : ∃ Q, quoteL a = Q := ⟨_, rfl⟩
  obtain ⟨Q2, hQ2⟩ : ∃ Q2, quoteL b = Q2 := ⟨_, rfl⟩
  rw [hQ] at hd2 hqd h10 hql hq2 c1 c3
  rw [hQ2] at hd2 c2
  have c4 := fun W => refQuoted_c (Q ++ b) W (by rw [List.length_append]; omega)
  rw [hqd] at c4
  have hne : (Q != Q) = false := by simp
  have H10 : Hid (∀ x ∈ Q, x.toNat ≠ 10) := h10
  clear h10 hQ hQ2 hqd
  go_enter Try.func4, Try.ntmps4
  go_wp2_with fail
  refine (c1 _).mono ?_
  rintro e w1 ⟨rfl, hb1⟩
  go_wp2_with fail
  refine (c2 _).mono ?_
  rintro e w2 ⟨rfl, hb2⟩
  go_wp2_with fail
  refine (c3 _).mono ?_
  rintro e w3 ⟨rfl, rfl⟩
  go_wp2_with fail
  have hb := below2 hb1 hb2 hb1.size
  obtain ⟨wo, rfl⟩ : ∃ wo : World, wo = w2 := ⟨_, rfl⟩
  go_loopw [6] (fun c wr => ∃ i : Nat, i ≤ Q.length ∧ c = .int .i64 i ∧ wo = wr) (fun c _ => Q.length - (intOf c).toNat)
  case atStart => exact ⟨0, Nat.zero_le _, rfl, rfl⟩
  case round =>
    obtain ⟨i, hi, rfl, rfl⟩ := hrel
    by_cases hlt : i < Q.length
    · have h := H10.out _ (List.getElem_mem hlt)
      obtain ⟨x, hx⟩ : ∃ x, Q[i] = x := ⟨_, rfl⟩
      rw [hx] at h
      have t1 : (((x.toNat : Nat) : Int) == 10) = false := by rw [beq_eq_false_iff_ne]; omega
      clear h
      go_wp2_with fail
      go_roundw
      case rel => exact ⟨i + 1, by omega, by go_num, by first | rfl | trivial⟩
      case measure => simp [intOf]; omega
    · obtain rfl : i = Q.length := by omega
      go_wp2_with fail
      refine (c4 _).mono ?_
      rintro e w4 ⟨rfl, rfl⟩
      go_wp2_with fail
      go_ret
      exact ⟨by simp, hb⟩
end Go.Proofs.Ytejmkboballonaa
