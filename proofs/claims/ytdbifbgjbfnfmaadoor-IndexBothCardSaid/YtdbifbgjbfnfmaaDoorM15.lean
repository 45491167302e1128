/-
  Texts of the same seat, one behind the other (merged; each says at its head what it is).
-/
import Derived.Test.YtdbifbgjbfnfmaaDoorM14
import Derived.Test.YtdbifbgjbfnfmaaDoorM07
/-
  Layer 6 (post): two lists merged; the program's And, Or and Not.
-/
namespace Go.Proofs.YtdbifbgjbfnfmaaDoor
open Go.RowKit Go.Deep
set_option linter.unusedVariables false
set_option linter.unusedSimpArgs false
def vlen : Value → Nat
  | .slice _ n _ => n
  | _ => 0
theorem pos_false (n : Nat) : decide (0 < (n : Int) + 1) = true := by simp
set_option maxRecDepth 100000 in
set_option maxHeartbeats 1000000 in
theorem mergeAnd_c (A A' : Option Addr) (len len' cap cap' : Nat) (l m : List Int) (w : World) (hl : l.length ≤ 10000) (hm : m.length ≤ 10000) (hA : IAt w A len cap l) (hB : IAt w A' len' cap' m) :
    Calls Tryd.prog 61 #[.slice A len cap, .slice A' len' cap', .func (.func 62) #[] #[]] w fun e w' => (∃ v, e = .returned v ∧ NewI w.heap.size v (mergeL fAnd l m) w') ∧ Below w.heap.size w w' := by
  have hle := hA.1
  have hme := hB.1
  subst hle hme
  have hml := len_merge fAnd l m
  have HML := Lib.hid hml
  clear hml
  go_enter Tryd.func61, Tryd.ntmps61
  go_wp2_with fail
  go_loopw [0, 1, 7] (fun a b v wr => ∃ (la lb out : List Int) (Aa Ab A1 : Option Addr) (ca cb cap1 : Nat), a = .slice Aa la.length ca ∧ b = .slice Ab lb.length cb ∧ v = .slice A1 out.length cap1 ∧ IAt w Aa la.length ca la ∧ IAt w Ab lb.length cb lb ∧ NewI w.heap.size (.slice A1 out.length cap1) out wr ∧ Hid (out ++ mergeL fAnd la lb = mergeL fAnd l m ∧ la.length ≤ l.length ∧ lb.length ≤ m.length) ∧ Below w.heap.size w wr) (fun a b _ _ => vlen a + vlen b)
  case atStart => exact ⟨l, m, [], A, A', none, cap, cap', 0, rfl, rfl, rfl, hA, hB, NewI.nil _ _, ⟨rfl, Nat.le_refl _, Nat.le_refl _⟩, Below.refl _ _⟩
  case round =>
    obtain ⟨la, lb, out, Aa, Ab, A1, ca, cb, cap1, rfl, rfl, rfl, hIa, hIb, hN, HO, hb⟩ := hrel
    have hbs := hb.size
    have hol : out.length ≤ 20000 := by
      have h1 := congrArg List.length HO.out.1
      rw [List.length_append] at h1
      have h2 := HML.out
      omega
    have hla : la.length ≤ 10000 := by have := HO.out.2.1; omega
    have hlb : lb.length ≤ 10000 := by have := HO.out.2.2; omega
    have cn := fun W h h' => nextIn_c Aa Ab la.length lb.length ca cb la lb W (by omega) (by omega) h h'
    have cw := fun p q W => wantAnd_c p q W
    by_cases hempty : la = [] ∧ lb = []
    · obtain ⟨rfl, rfl⟩ := hempty
      have e : out = mergeL fAnd l m := by
        have := HO.out.1
        rwa [merge_nil, List.append_nil] at this
      have HE := Lib.hid e
      have HN := Lib.hid hN
      clear e hN cn cw
      go_wp2_with fail
      go_ret
      exact ⟨⟨_, rfl, HE.out ▸ HN.out⟩, hb⟩
    · have hsome := in_some (a := la) (b := lb) (by rcases Classical.not_and_iff_not_or_not.1 hempty with h | h; exact .inl h; exact .inr h)
      clear hempty
      have HN := Lib.hid hN
      clear hN
      cases hp : inA la lb with
      | true =>
        obtain ⟨x, la, rfl⟩ := inA_cons hp
        cases hq : inB (x :: la) lb with
        | true =>
          obtain ⟨y, lb, rfl⟩ := inB_cons hq
          obtain ⟨rfl, hst⟩ := merge_ab fAnd hp hq
          obtain ⟨ad, rfl, h2, h3, r1, r2⟩ := hIa.head
          obtain ⟨ad', rfl, k2, k3, s1, s2⟩ := hIb.head
          rw [hp, hq] at cn
          have hD := hIa.dropped 1 (by simp)
          have hE := hIb.dropped 1 (by simp)
          have hca := hIa.2.1
          have hcb := hIb.2.1
          obtain ⟨X, hX⟩ : ∃ X, (if ca = 1 then some ad else some (⟨ad.block, ad.off + 1, none⟩ : Addr)) = X := ⟨_, rfl⟩
          obtain ⟨Y, hY⟩ : ∃ Y, (if cb = 1 then some ad' else some (⟨ad'.block, ad'.off + 1, none⟩ : Addr)) = Y := ⟨_, rfl⟩
          have HD : Hid (IAt w X la.length (ca - 1) la) := by rw [← hX]; exact hD
          have HF : Hid (IAt w Y lb.length (cb - 1) lb) := by rw [← hY]; exact hE
          have HS := Lib.hid hst
          have HI := Lib.hid (And.intro hIa hIb)
          have cn := Lib.hid cn
          have hlc : la.length + 1 ≤ ca := by simpa using hca
          have hld : lb.length + 1 ≤ cb := by simpa using hcb
          clear hst hp hq hsome hIa hIb hca hcb hD hE
          go_wp2_with (first | (go_at_call 91; refine (cn.out _ (HI.out.1.below hb) (HI.out.2.below hb)).mono ?_; rintro e w1 ⟨rfl, hb1⟩; have hb2 := below2 hb hb1 hbs; have hb2s := hb2.size; have h3 := (hb2.cell (p := ad) h2).trans h3; have k3 := (hb2.cell (p := ad') k2).trans k3; dsimp only))
          go_quiet (fail)
          go_wp2_with fail
          go_quiet (fail)
          go_wp2_with (first | (go_at_call 62; refine (cw _ _ _).mono ?_; rintro e w2 ⟨rfl, rfl⟩; dsimp only) | (at_builtin; refine app_one rfl (.tmp 41) (.tmp 43) rfl rfl ((HN.out.below hb1).drewN _) x rfl rfl r1 r2 (by omega) hb2s ?c1))
          case c1 =>
            intro A3 cap3 w3 L HL hN3 hb3
            have hb4 := (below_drewN hb2 _).trans hb3
            have HN3 := Lib.hid hN3
            clear hN3 h3 k3
            go_wp2_with fail
            go_roundw
            case rel => exact ⟨la, lb, L, X, Y, A3, (ca - 1), (cb - 1), cap3, rfl, rfl, rfl, HD.out, HF.out, HN3.out, ⟨by rw [HL.out, List.append_assoc]; have := HO.out.1; rw [HS.out] at this; exact this, by have := HO.out.2.1; first | omega | (simp at this; omega), by have := HO.out.2.2; first | omega | (simp at this; omega)⟩, hb4⟩
            case measure => simp [vlen]; try omega
        | false =>
          have hst := merge_a fAnd hp hq
          rw [hp, hq] at cn
          obtain ⟨ad, rfl, h2, h3, r1, r2⟩ := hIa.head
          have hD := hIa.dropped 1 (by simp)
          have hca := hIa.2.1
          obtain ⟨X, hX⟩ : ∃ X, (if ca = 1 then some ad else some (⟨ad.block, ad.off + 1, none⟩ : Addr)) = X := ⟨_, rfl⟩
          have HD : Hid (IAt w X la.length (ca - 1) la) := by rw [← hX]; exact hD
          have HS := Lib.hid hst
          have HI := Lib.hid (And.intro hIa hIb)
          have cn := Lib.hid cn
          have hlc : la.length + 1 ≤ ca := by simpa using hca
          clear hst hp hq hsome hIa hIb hca hD
          go_wp2_with (first | (go_at_call 91; refine (cn.out _ (HI.out.1.below hb) (HI.out.2.below hb)).mono ?_; rintro e w1 ⟨rfl, hb1⟩; have hb2 := below2 hb hb1 hbs; have hb2s := hb2.size; have h3 := (hb2.cell (p := ad) h2).trans h3; dsimp only))
          go_quiet (fail)
          go_wp2_with (go_at_call 62; refine (cw _ _ _).mono ?_; rintro e w2 ⟨rfl, rfl⟩; dsimp only)
          go_roundw
          case rel => exact ⟨la, lb, out, X, Ab, A1, (ca - 1), cb, cap1, rfl, rfl, rfl, HD.out, HI.out.2, (HN.out.below hb1).drewN _, ⟨by have := HO.out.1; rw [HS.out] at this; exact this, by have := HO.out.2.1; first | omega | (simp at this; omega), by have := HO.out.2.2; first | omega | (simp at this; omega)⟩, below_drewN hb2 _⟩
          case measure => simp [vlen]; try omega
      | false =>
        have hq : inB la lb = true := by rcases hsome with h | h; rw [hp] at h; cases h; exact h
        obtain ⟨y, lb, rfl⟩ := inB_cons hq
        match la with
        | [] =>
          have hst := merge_b fAnd hp hq
          rw [hp, hq] at cn
          obtain ⟨ad, rfl, h2, h3, r1, r2⟩ := hIb.head
          have hD := hIb.dropped 1 (by simp)
          have hcb := hIb.2.1
          obtain ⟨X, hX⟩ : ∃ X, (if cb = 1 then some ad else some (⟨ad.block, ad.off + 1, none⟩ : Addr)) = X := ⟨_, rfl⟩
          have HD : Hid (IAt w X lb.length (cb - 1) lb) := by rw [← hX]; exact hD
          have HS := Lib.hid hst
          have HI := Lib.hid (And.intro hIa hIb)
          have cn := Lib.hid cn
          have hlc : lb.length + 1 ≤ cb := by simpa using hcb
          clear hst hp hq hsome hIa hIb hcb hD
          go_wp2_with (first | (go_at_call 91; refine (cn.out _ (HI.out.1.below hb) (HI.out.2.below hb)).mono ?_; rintro e w1 ⟨rfl, hb1⟩; have hb2 := below2 hb hb1 hbs; have hb2s := hb2.size; have h3 := (hb2.cell (p := ad) h2).trans h3; dsimp only))
          go_quiet (fail)
          go_wp2_with (go_at_call 62; refine (cw _ _ _).mono ?_; rintro e w2 ⟨rfl, rfl⟩; dsimp only)
          go_roundw
          case rel => exact ⟨[], lb, out, Aa, X, A1, ca, (cb - 1), cap1, rfl, rfl, rfl, HI.out.1, HD.out, (HN.out.below hb1).drewN _, ⟨by have := HO.out.1; rw [HS.out] at this; exact this, by have := HO.out.2.1; first | omega | (simp at this; omega), by have := HO.out.2.2; first | omega | (simp at this; omega)⟩, below_drewN hb2 _⟩
          case measure => simp [vlen]; try omega
        | x :: la =>
          have hst := merge_b fAnd hp hq
          rw [hp, hq] at cn
          obtain ⟨ad, rfl, h2, h3, r1, r2⟩ := hIb.head
          have hD := hIb.dropped 1 (by simp)
          have hcb := hIb.2.1
          obtain ⟨X, hX⟩ : ∃ X, (if cb = 1 then some ad else some (⟨ad.block, ad.off + 1, none⟩ : Addr)) = X := ⟨_, rfl⟩
          have HD : Hid (IAt w X lb.length (cb - 1) lb) := by rw [← hX]; exact hD
          have HS := Lib.hid hst
          have HI := Lib.hid (And.intro hIa hIb)
          have cn := Lib.hid cn
          have hlc : lb.length + 1 ≤ cb := by simpa using hcb
          clear hst hp hq hsome hIa hIb hcb hD
          go_wp2_with (first | (go_at_call 91; refine (cn.out _ (HI.out.1.below hb) (HI.out.2.below hb)).mono ?_; rintro e w1 ⟨rfl, hb1⟩; have hb2 := below2 hb hb1 hbs; have hb2s := hb2.size; have h3 := (hb2.cell (p := ad) h2).trans h3; dsimp only))
          go_quiet (fail)
          go_wp2_with (go_at_call 62; refine (cw _ _ _).mono ?_; rintro e w2 ⟨rfl, rfl⟩; dsimp only)
          go_roundw
          case rel => exact ⟨(x :: la), lb, out, Aa, X, A1, ca, (cb - 1), cap1, rfl, rfl, rfl, HI.out.1, HD.out, (HN.out.below hb1).drewN _, ⟨by have := HO.out.1; rw [HS.out] at this; exact this, by have := HO.out.2.1; first | omega | (simp at this; omega), by have := HO.out.2.2; first | omega | (simp at this; omega)⟩, below_drewN hb2 _⟩
          case measure => simp [vlen]; try omega
set_option maxRecDepth 100000 in
set_option maxHeartbeats 1000000 in
theorem mergeOr_c (A A' : Option Addr) (len len' cap cap' : Nat) (l m : List Int) (w : World) (hl : l.length ≤ 10000) (hm : m.length ≤ 10000) (hA : IAt w A len cap l) (hB : IAt w A' len' cap' m) :
    Calls Tryd.prog 61 #[.slice A len cap, .slice A' len' cap', .func (.func 114) #[] #[]] w fun e w' => (∃ v, e = .returned v ∧ NewI w.heap.size v (mergeL fOr l m) w') ∧ Below w.heap.size w w' := by
  have hle := hA.1
  have hme := hB.1
  subst hle hme
  have hml := len_merge fOr l m
  have HML := Lib.hid hml
  clear hml
  go_enter Tryd.func61, Tryd.ntmps61
  go_wp2_with fail
  go_loopw [0, 1, 7] (fun a b v wr => ∃ (la lb out : List Int) (Aa Ab A1 : Option Addr) (ca cb cap1 : Nat), a = .slice Aa la.length ca ∧ b = .slice Ab lb.length cb ∧ v = .slice A1 out.length cap1 ∧ IAt w Aa la.length ca la ∧ IAt w Ab lb.length cb lb ∧ NewI w.heap.size (.slice A1 out.length cap1) out wr ∧ Hid (out ++ mergeL fOr la lb = mergeL fOr l m ∧ la.length ≤ l.length ∧ lb.length ≤ m.length) ∧ Below w.heap.size w wr) (fun a b _ _ => vlen a + vlen b)
  case atStart => exact ⟨l, m, [], A, A', none, cap, cap', 0, rfl, rfl, rfl, hA, hB, NewI.nil _ _, ⟨rfl, Nat.le_refl _, Nat.le_refl _⟩, Below.refl _ _⟩
  case round =>
    obtain ⟨la, lb, out, Aa, Ab, A1, ca, cb, cap1, rfl, rfl, rfl, hIa, hIb, hN, HO, hb⟩ := hrel
    have hbs := hb.size
    have hol : out.length ≤ 20000 := by
      have h1 := congrArg List.length HO.out.1
      rw [List.length_append] at h1
      have h2 := HML.out
      omega
    have hla : la.length ≤ 10000 := by have := HO.out.2.1; omega
    have hlb : lb.length ≤ 10000 := by have := HO.out.2.2; omega
    have cn := fun W h h' => nextIn_c Aa Ab la.length lb.length ca cb la lb W (by omega) (by omega) h h'
    have cw := fun p q W => wantOr_c p q W
    by_cases hempty : la = [] ∧ lb = []
    · obtain ⟨rfl, rfl⟩ := hempty
      have e : out = mergeL fOr l m := by
        have := HO.out.1
        rwa [merge_nil, List.append_nil] at this
      have HE := Lib.hid e
      have HN := Lib.hid hN
      clear e hN cn cw
      go_wp2_with fail
      go_ret
      exact ⟨⟨_, rfl, HE.out ▸ HN.out⟩, hb⟩
    · have hsome := in_some (a := la) (b := lb) (by rcases Classical.not_and_iff_not_or_not.1 hempty with h | h; exact .inl h; exact .inr h)
      clear hempty
      have HN := Lib.hid hN
      clear hN
      cases hp : inA la lb with
      | true =>
        obtain ⟨x, la, rfl⟩ := inA_cons hp
        cases hq : inB (x :: la) lb with
        | true =>
          obtain ⟨y, lb, rfl⟩ := inB_cons hq
          obtain ⟨rfl, hst⟩ := merge_ab fOr hp hq
          obtain ⟨ad, rfl, h2, h3, r1, r2⟩ := hIa.head
          obtain ⟨ad', rfl, k2, k3, s1, s2⟩ := hIb.head
          rw [hp, hq] at cn
          have hD := hIa.dropped 1 (by simp)
          have hE := hIb.dropped 1 (by simp)
          have hca := hIa.2.1
          have hcb := hIb.2.1
          obtain ⟨X, hX⟩ : ∃ X, (if ca = 1 then some ad else some (⟨ad.block, ad.off + 1, none⟩ : Addr)) = X := ⟨_, rfl⟩
          obtain ⟨Y, hY⟩ : ∃ Y, (if cb = 1 then some ad' else some (⟨ad'.block, ad'.off + 1, none⟩ : Addr)) = Y := ⟨_, rfl⟩
          have HD : Hid (IAt w X la.length (ca - 1) la) := by rw [← hX]; exact hD
          have HF : Hid (IAt w Y lb.length (cb - 1) lb) := by rw [← hY]; exact hE
          have HS := Lib.hid hst
          have HI := Lib.hid (And.intro hIa hIb)
          have cn := Lib.hid cn
          have hlc : la.length + 1 ≤ ca := by simpa using hca
          have hld : lb.length + 1 ≤ cb := by simpa using hcb
          clear hst hp hq hsome hIa hIb hca hcb hD hE
          go_wp2_with (first | (go_at_call 91; refine (cn.out _ (HI.out.1.below hb) (HI.out.2.below hb)).mono ?_; rintro e w1 ⟨rfl, hb1⟩; have hb2 := below2 hb hb1 hbs; have hb2s := hb2.size; have h3 := (hb2.cell (p := ad) h2).trans h3; have k3 := (hb2.cell (p := ad') k2).trans k3; dsimp only))
          go_quiet (fail)
          go_wp2_with fail
          go_quiet (fail)
          go_wp2_with (first | (go_at_call 114; refine (cw _ _ _).mono ?_; rintro e w2 ⟨rfl, rfl⟩; dsimp only) | (at_builtin; refine app_one rfl (.tmp 41) (.tmp 43) rfl rfl ((HN.out.below hb1).drewN _) x rfl rfl r1 r2 (by omega) hb2s ?c1))
          case c1 =>
            intro A3 cap3 w3 L HL hN3 hb3
            have hb4 := (below_drewN hb2 _).trans hb3
            have HN3 := Lib.hid hN3
            clear hN3 h3 k3
            go_wp2_with fail
            go_roundw
            case rel => exact ⟨la, lb, L, X, Y, A3, (ca - 1), (cb - 1), cap3, rfl, rfl, rfl, HD.out, HF.out, HN3.out, ⟨by rw [HL.out, List.append_assoc]; have := HO.out.1; rw [HS.out] at this; exact this, by have := HO.out.2.1; first | omega | (simp at this; omega), by have := HO.out.2.2; first | omega | (simp at this; omega)⟩, hb4⟩
            case measure => simp [vlen]; try omega
        | false =>
          have hst := merge_a fOr hp hq
          rw [hp, hq] at cn
          obtain ⟨ad, rfl, h2, h3, r1, r2⟩ := hIa.head
          have hD := hIa.dropped 1 (by simp)
          have hca := hIa.2.1
          obtain ⟨X, hX⟩ : ∃ X, (if ca = 1 then some ad else some (⟨ad.block, ad.off + 1, none⟩ : Addr)) = X := ⟨_, rfl⟩
          have HD : Hid (IAt w X la.length (ca - 1) la) := by rw [← hX]; exact hD
          have HS := Lib.hid hst
          have HI := Lib.hid (And.intro hIa hIb)
          have cn := Lib.hid cn
          have hlc : la.length + 1 ≤ ca := by simpa using hca
          clear hst hp hq hsome hIa hIb hca hD
          go_wp2_with (first | (go_at_call 91; refine (cn.out _ (HI.out.1.below hb) (HI.out.2.below hb)).mono ?_; rintro e w1 ⟨rfl, hb1⟩; have hb2 := below2 hb hb1 hbs; have hb2s := hb2.size; have h3 := (hb2.cell (p := ad) h2).trans h3; dsimp only))
          go_quiet (fail)
          go_wp2_with (first | (go_at_call 114; refine (cw _ _ _).mono ?_; rintro e w2 ⟨rfl, rfl⟩; dsimp only) | (at_builtin; refine app_one rfl (.tmp 41) (.tmp 43) rfl rfl ((HN.out.below hb1).drewN _) x rfl rfl r1 r2 (by omega) hb2s ?c1))
          case c1 =>
            intro A3 cap3 w3 L HL hN3 hb3
            have hb4 := (below_drewN hb2 _).trans hb3
            have HN3 := Lib.hid hN3
            clear hN3 h3
            go_wp2_with fail
            go_roundw
            case rel => exact ⟨la, lb, L, X, Ab, A3, (ca - 1), cb, cap3, rfl, rfl, rfl, HD.out, HI.out.2, HN3.out, ⟨by rw [HL.out, List.append_assoc]; have := HO.out.1; rw [HS.out] at this; exact this, by have := HO.out.2.1; first | omega | (simp at this; omega), by have := HO.out.2.2; first | omega | (simp at this; omega)⟩, hb4⟩
            case measure => simp [vlen]; try omega
      | false =>
        have hq : inB la lb = true := by rcases hsome with h | h; rw [hp] at h; cases h; exact h
        obtain ⟨y, lb, rfl⟩ := inB_cons hq
        match la with
        | [] =>
          have hst := merge_b fOr hp hq
          rw [hp, hq] at cn
          obtain ⟨ad, rfl, h2, h3, r1, r2⟩ := hIb.head
          have hD := hIb.dropped 1 (by simp)
          have hcb := hIb.2.1
          obtain ⟨X, hX⟩ : ∃ X, (if cb = 1 then some ad else some (⟨ad.block, ad.off + 1, none⟩ : Addr)) = X := ⟨_, rfl⟩
          have HD : Hid (IAt w X lb.length (cb - 1) lb) := by rw [← hX]; exact hD
          have HS := Lib.hid hst
          have HI := Lib.hid (And.intro hIa hIb)
          have cn := Lib.hid cn
          have hlc : lb.length + 1 ≤ cb := by simpa using hcb
          clear hst hp hq hsome hIa hIb hcb hD
          go_wp2_with (first | (go_at_call 91; refine (cn.out _ (HI.out.1.below hb) (HI.out.2.below hb)).mono ?_; rintro e w1 ⟨rfl, hb1⟩; have hb2 := below2 hb hb1 hbs; have hb2s := hb2.size; have h3 := (hb2.cell (p := ad) h2).trans h3; dsimp only))
          go_quiet (fail)
          go_wp2_with (first | (go_at_call 114; refine (cw _ _ _).mono ?_; rintro e w2 ⟨rfl, rfl⟩; dsimp only) | (at_builtin; refine app_one rfl (.tmp 41) (.tmp 43) rfl rfl ((HN.out.below hb1).drewN _) y rfl rfl r1 r2 (by omega) hb2s ?c1))
          case c1 =>
            intro A3 cap3 w3 L HL hN3 hb3
            have hb4 := (below_drewN hb2 _).trans hb3
            have HN3 := Lib.hid hN3
            clear hN3 h3
            go_wp2_with fail
            go_roundw
            case rel => exact ⟨[], lb, L, Aa, X, A3, ca, (cb - 1), cap3, rfl, rfl, rfl, HI.out.1, HD.out, HN3.out, ⟨by rw [HL.out, List.append_assoc]; have := HO.out.1; rw [HS.out] at this; exact this, by have := HO.out.2.1; first | omega | (simp at this; omega), by have := HO.out.2.2; first | omega | (simp at this; omega)⟩, hb4⟩
            case measure => simp [vlen]; try omega
        | x :: la =>
          have hst := merge_b fOr hp hq
          rw [hp, hq] at cn
          obtain ⟨ad, rfl, h2, h3, r1, r2⟩ := hIb.head
          have hD := hIb.dropped 1 (by simp)
          have hcb := hIb.2.1
          obtain ⟨X, hX⟩ : ∃ X, (if cb = 1 then some ad else some (⟨ad.block, ad.off + 1, none⟩ : Addr)) = X := ⟨_, rfl⟩
          have HD : Hid (IAt w X lb.length (cb - 1) lb) := by rw [← hX]; exact hD
          have HS := Lib.hid hst
          have HI := Lib.hid (And.intro hIa hIb)
          have cn := Lib.hid cn
          have hlc : lb.length + 1 ≤ cb := by simpa using hcb
          clear hst hp hq hsome hIa hIb hcb hD
          go_wp2_with (first | (go_at_call 91; refine (cn.out _ (HI.out.1.below hb) (HI.out.2.below hb)).mono ?_; rintro e w1 ⟨rfl, hb1⟩; have hb2 := below2 hb hb1 hbs; have hb2s := hb2.size; have h3 := (hb2.cell (p := ad) h2).trans h3; dsimp only))
          go_quiet (fail)
          go_wp2_with (first | (go_at_call 114; refine (cw _ _ _).mono ?_; rintro e w2 ⟨rfl, rfl⟩; dsimp only) | (at_builtin; refine app_one rfl (.tmp 41) (.tmp 43) rfl rfl ((HN.out.below hb1).drewN _) y rfl rfl r1 r2 (by omega) hb2s ?c1))
          case c1 =>
            intro A3 cap3 w3 L HL hN3 hb3
            have hb4 := (below_drewN hb2 _).trans hb3
            have HN3 := Lib.hid hN3
            clear hN3 h3
            go_wp2_with fail
            go_roundw
            case rel => exact ⟨(x :: la), lb, L, Aa, X, A3, ca, (cb - 1), cap3, rfl, rfl, rfl, HI.out.1, HD.out, HN3.out, ⟨by rw [HL.out, List.append_assoc]; have := HO.out.1; rw [HS.out] at this; exact this, by have := HO.out.2.1; first | omega | (simp at this; omega), by have := HO.out.2.2; first | omega | (simp at this; omega)⟩, hb4⟩
            case measure => simp [vlen]; try omega
set_option maxRecDepth 100000 in
set_option maxHeartbeats 1000000 in
theorem mergeNot_c (A A' : Option Addr) (len len' cap cap' : Nat) (l m : List Int) (w : World) (hl : l.length ≤ 10000) (hm : m.length ≤ 10000) (hA : IAt w A len cap l) (hB : IAt w A' len' cap' m) :
    Calls Tryd.prog 61 #[.slice A len cap, .slice A' len' cap', .func (.func 113) #[] #[]] w fun e w' => (∃ v, e = .returned v ∧ NewI w.heap.size v (mergeL fNot l m) w') ∧ Below w.heap.size w w' := by
  have hle := hA.1
  have hme := hB.1
  subst hle hme
  have hml := len_merge fNot l m
  have HML := Lib.hid hml
  clear hml
  go_enter Tryd.func61, Tryd.ntmps61
  go_wp2_with fail
  go_loopw [0, 1, 7] (fun a b v wr => ∃ (la lb out : List Int) (Aa Ab A1 : Option Addr) (ca cb cap1 : Nat), a = .slice Aa la.length ca ∧ b = .slice Ab lb.length cb ∧ v = .slice A1 out.length cap1 ∧ IAt w Aa la.length ca la ∧ IAt w Ab lb.length cb lb ∧ NewI w.heap.size (.slice A1 out.length cap1) out wr ∧ Hid (out ++ mergeL fNot la lb = mergeL fNot l m ∧ la.length ≤ l.length ∧ lb.length ≤ m.length) ∧ Below w.heap.size w wr) (fun a b _ _ => vlen a + vlen b)
  case atStart => exact ⟨l, m, [], A, A', none, cap, cap', 0, rfl, rfl, rfl, hA, hB, NewI.nil _ _, ⟨rfl, Nat.le_refl _, Nat.le_refl _⟩, Below.refl _ _⟩
  case round =>
    obtain ⟨la, lb, out, Aa, Ab, A1, ca, cb, cap1, rfl, rfl, rfl, hIa, hIb, hN, HO, hb⟩ := hrel
    have hbs := hb.size
    have hol : out.length ≤ 20000 := by
      have h1 := congrArg List.length HO.out.1
      rw [List.length_append] at h1
      have h2 := HML.out
      omega
    have hla : la.length ≤ 10000 := by have := HO.out.2.1; omega
    have hlb : lb.length ≤ 10000 := by have := HO.out.2.2; omega
    have cn := fun W h h' => nextIn_c Aa Ab la.length lb.length ca cb la lb W (by omega) (by omega) h h'
    have cw := fun p q W => wantNot_c p q W
    by_cases hempty : la = [] ∧ lb = []
    · obtain ⟨rfl, rfl⟩ := hempty
      have e : out = mergeL fNot l m := by
        have := HO.out.1
        rwa [merge_nil, List.append_nil] at this
      have HE := Lib.hid e
      have HN := Lib.hid hN
      clear e hN cn cw
      go_wp2_with fail
      go_ret
      exact ⟨⟨_, rfl, HE.out ▸ HN.out⟩, hb⟩
    · have hsome := in_some (a := la) (b := lb) (by rcases Classical.not_and_iff_not_or_not.1 hempty with h | h; exact .inl h; exact .inr h)
      clear hempty
      have HN := Lib.hid hN
      clear hN
      cases hp : inA la lb with
      | true =>
        obtain ⟨x, la, rfl⟩ := inA_cons hp
        cases hq : inB (x :: la) lb with
        | true =>
          obtain ⟨y, lb, rfl⟩ := inB_cons hq
          obtain ⟨rfl, hst⟩ := merge_ab fNot hp hq
          obtain ⟨ad, rfl, h2, h3, r1, r2⟩ := hIa.head
          obtain ⟨ad', rfl, k2, k3, s1, s2⟩ := hIb.head
          rw [hp, hq] at cn
          have hD := hIa.dropped 1 (by simp)
          have hE := hIb.dropped 1 (by simp)
          have hca := hIa.2.1
          have hcb := hIb.2.1
          obtain ⟨X, hX⟩ : ∃ X, (if ca = 1 then some ad else some (⟨ad.block, ad.off + 1, none⟩ : Addr)) = X := ⟨_, rfl⟩
          obtain ⟨Y, hY⟩ : ∃ Y, (if cb = 1 then some ad' else some (⟨ad'.block, ad'.off + 1, none⟩ : Addr)) = Y := ⟨_, rfl⟩
          have HD : Hid (IAt w X la.length (ca - 1) la) := by rw [← hX]; exact hD
          have HF : Hid (IAt w Y lb.length (cb - 1) lb) := by rw [← hY]; exact hE
          have HS := Lib.hid hst
          have HI := Lib.hid (And.intro hIa hIb)
          have cn := Lib.hid cn
          have hlc : la.length + 1 ≤ ca := by simpa using hca
          have hld : lb.length + 1 ≤ cb := by simpa using hcb
          clear hst hp hq hsome hIa hIb hca hcb hD hE
          go_wp2_with (first | (go_at_call 91; refine (cn.out _ (HI.out.1.below hb) (HI.out.2.below hb)).mono ?_; rintro e w1 ⟨rfl, hb1⟩; have hb2 := below2 hb hb1 hbs; have hb2s := hb2.size; have h3 := (hb2.cell (p := ad) h2).trans h3; have k3 := (hb2.cell (p := ad') k2).trans k3; dsimp only))
          go_quiet (fail)
          go_wp2_with fail
          go_quiet (fail)
          go_wp2_with (go_at_call 113; refine (cw _ _ _).mono ?_; rintro e w2 ⟨rfl, rfl⟩; dsimp only)
          go_roundw
          case rel => exact ⟨la, lb, out, X, Y, A1, (ca - 1), (cb - 1), cap1, rfl, rfl, rfl, HD.out, HF.out, (HN.out.below hb1).drewN _, ⟨by have := HO.out.1; rw [HS.out] at this; exact this, by have := HO.out.2.1; first | omega | (simp at this; omega), by have := HO.out.2.2; first | omega | (simp at this; omega)⟩, below_drewN hb2 _⟩
          case measure => simp [vlen]; try omega
        | false =>
          have hst := merge_a fNot hp hq
          rw [hp, hq] at cn
          obtain ⟨ad, rfl, h2, h3, r1, r2⟩ := hIa.head
          have hD := hIa.dropped 1 (by simp)
          have hca := hIa.2.1
          obtain ⟨X, hX⟩ : ∃ X, (if ca = 1 then some ad else some (⟨ad.block, ad.off + 1, none⟩ : Addr)) = X := ⟨_, rfl⟩
          have HD : Hid (IAt w X la.length (ca - 1) la) := by rw [← hX]; exact hD
          have HS := Lib.hid hst
          have HI := Lib.hid (And.intro hIa hIb)
          have cn := Lib.hid cn
          have hlc : la.length + 1 ≤ ca := by simpa using hca
          clear hst hp hq hsome hIa hIb hca hD
          go_wp2_with (first | (go_at_call 91; refine (cn.out _ (HI.out.1.below hb) (HI.out.2.below hb)).mono ?_; rintro e w1 ⟨rfl, hb1⟩; have hb2 := below2 hb hb1 hbs; have hb2s := hb2.size; have h3 := (hb2.cell (p := ad) h2).trans h3; dsimp only))
          go_quiet (fail)
          go_wp2_with (first | (go_at_call 113; refine (cw _ _ _).mono ?_; rintro e w2 ⟨rfl, rfl⟩; dsimp only) | (at_builtin; refine app_one rfl (.tmp 41) (.tmp 43) rfl rfl ((HN.out.below hb1).drewN _) x rfl rfl r1 r2 (by omega) hb2s ?c1))
          case c1 =>
            intro A3 cap3 w3 L HL hN3 hb3
            have hb4 := (below_drewN hb2 _).trans hb3
            have HN3 := Lib.hid hN3
            clear hN3 h3
            go_wp2_with fail
            go_roundw
            case rel => exact ⟨la, lb, L, X, Ab, A3, (ca - 1), cb, cap3, rfl, rfl, rfl, HD.out, HI.out.2, HN3.out, ⟨by rw [HL.out, List.append_assoc]; have := HO.out.1; rw [HS.out] at this; exact this, by have := HO.out.2.1; first | omega | (simp at this; omega), by have := HO.out.2.2; first | omega | (simp at this; omega)⟩, hb4⟩
            case measure => simp [vlen]; try omega
      | false =>
        have hq : inB la lb = true := by rcases hsome with h | h; rw [hp] at h; cases h; exact h
        obtain ⟨y, lb, rfl⟩ := inB_cons hq
        match la with
        | [] =>
          have hst := merge_b fNot hp hq
          rw [hp, hq] at cn
          obtain ⟨ad, rfl, h2, h3, r1, r2⟩ := hIb.head
          have hD := hIb.dropped 1 (by simp)
          have hcb := hIb.2.1
          obtain ⟨X, hX⟩ : ∃ X, (if cb = 1 then some ad else some (⟨ad.block, ad.off + 1, none⟩ : Addr)) = X := ⟨_, rfl⟩
          have HD : Hid (IAt w X lb.length (cb - 1) lb) := by rw [← hX]; exact hD
          have HS := Lib.hid hst
          have HI := Lib.hid (And.intro hIa hIb)
          have cn := Lib.hid cn
          have hlc : lb.length + 1 ≤ cb := by simpa using hcb
          clear hst hp hq hsome hIa hIb hcb hD
          go_wp2_with (first | (go_at_call 91; refine (cn.out _ (HI.out.1.below hb) (HI.out.2.below hb)).mono ?_; rintro e w1 ⟨rfl, hb1⟩; have hb2 := below2 hb hb1 hbs; have hb2s := hb2.size; have h3 := (hb2.cell (p := ad) h2).trans h3; dsimp only))
          go_quiet (fail)
          go_wp2_with (go_at_call 113; refine (cw _ _ _).mono ?_; rintro e w2 ⟨rfl, rfl⟩; dsimp only)
          go_roundw
          case rel => exact ⟨[], lb, out, Aa, X, A1, ca, (cb - 1), cap1, rfl, rfl, rfl, HI.out.1, HD.out, (HN.out.below hb1).drewN _, ⟨by have := HO.out.1; rw [HS.out] at this; exact this, by have := HO.out.2.1; first | omega | (simp at this; omega), by have := HO.out.2.2; first | omega | (simp at this; omega)⟩, below_drewN hb2 _⟩
          case measure => simp [vlen]; try omega
        | x :: la =>
          have hst := merge_b fNot hp hq
          rw [hp, hq] at cn
          obtain ⟨ad, rfl, h2, h3, r1, r2⟩ := hIb.head
          have hD := hIb.dropped 1 (by simp)
          have hcb := hIb.2.1
          obtain ⟨X, hX⟩ : ∃ X, (if cb = 1 then some ad else some (⟨ad.block, ad.off + 1, none⟩ : Addr)) = X := ⟨_, rfl⟩
          have HD : Hid (IAt w X lb.length (cb - 1) lb) := by rw [← hX]; exact hD
          have HS := Lib.hid hst
          have HI := Lib.hid (And.intro hIa hIb)
          have cn := Lib.hid cn
          have hlc : lb.length + 1 ≤ cb := by simpa using hcb
          clear hst hp hq hsome hIa hIb hcb hD
          go_wp2_with (first | (go_at_call 91; refine (cn.out _ (HI.out.1.below hb) (HI.out.2.below hb)).mono ?_; rintro e w1 ⟨rfl, hb1⟩; have hb2 := below2 hb hb1 hbs; have hb2s := hb2.size; have h3 := (hb2.cell (p := ad) h2).trans h3; dsimp only))
          go_quiet (fail)
          go_wp2_with (go_at_call 113; refine (cw _ _ _).mono ?_; rintro e w2 ⟨rfl, rfl⟩; dsimp only)
          go_roundw
          case rel => exact ⟨(x :: la), lb, out, Aa, X, A1, ca, (cb - 1), cap1, rfl, rfl, rfl, HI.out.1, HD.out, (HN.out.below hb1).drewN _, ⟨by have := HO.out.1; rw [HS.out] at this; exact this, by have := HO.out.2.1; first | omega | (simp at this; omega), by have := HO.out.2.2; first | omega | (simp at this; omega)⟩, below_drewN hb2 _⟩
          case measure => simp [vlen]; try omega
end Go.Proofs.YtdbifbgjbfnfmaaDoor
/-
  Layer 6 (post): the document's And, Not and Or.
-/
namespace Go.Proofs.YtdbifbgjbfnfmaaDoor
open Go.RowKit Go.Deep
set_option linter.unusedVariables false
set_option linter.unusedSimpArgs false
theorem filter_take (p : Int → Bool) (l : List Int) (i : Nat) (h : i < l.length) : (l.take (i + 1)).filter p = (l.take i).filter p ++ if p l[i] = true then [l[i]] else [] := by
  rw [List.take_succ_eq_append_getElem h, List.filter_append]
  cases hp : p l[i] <;> simp [hp]
set_option maxRecDepth 100000 in
theorem refAnd_c (A A' : Option Addr) (len len' cap cap' : Nat) (l m : List Int) (w : World) (hl : l.length ≤ 10000) (hm : m.length ≤ 10000) (hA : IAt w A len cap l) (hB : IAt w A' len' cap' m) :
    Calls Tryd.prog 29 #[.slice A len cap, .slice A' len' cap'] w fun e w' => (∃ v, e = .returned v ∧ NewI w.heap.size v (andL l m) w') ∧ Below w.heap.size w w' := by
  have hle := hA.1
  have hme := hB.1
  subst hle hme
  go_enter Tryd.func29, Tryd.ntmps29
  go_wp2_with fail
  go_loopw [5, 6] (fun v c wr => ∃ (i : Nat) (out : List Int) (A1 : Option Addr) (cap1 : Nat), i ≤ l.length ∧ c = .int .i64 i ∧ v = .slice A1 out.length cap1 ∧ NewI w.heap.size (.slice A1 out.length cap1) out wr ∧ Hid (out = (l.take i).filter (fun x => decide (x ∈ m))) ∧ Below w.heap.size w wr) (fun _ c _ => l.length - (intOf c).toNat)
  case atStart => exact ⟨0, [], _, _, Nat.zero_le _, rfl, rfl, NewI.empty w _ (Nat.le_refl _), rfl, (Below.refl _ w).alloc (Nat.le_refl _) _⟩
  case round =>
    obtain ⟨i, out, A1, cap1, hi, rfl, rfl, hN, HO, hb⟩ := hrel
    have hbs := hb.size
    by_cases hlt : i < l.length
    · obtain ⟨⟨r1, r2⟩, ad, rfl, h2, h3⟩ := hA.2.2 i hlt
      have hst := filter_take (fun x => decide (x ∈ m)) l i hlt
      rw [← HO.out] at hst
      have hol : out.length ≤ 10000 := by rw [HO.out]; exact Nat.le_trans (List.length_filter_le _ _) (by rw [List.length_take]; omega)
      obtain ⟨x, hx⟩ : ∃ x, l[i]'hlt = x := ⟨_, rfl⟩
      rw [hx] at r1 r2 h3 hst
      have h3 := (hb.cell (p := ad.add i) h2).trans h3
      have cH := Lib.hid (refHas_c A' m.length cap' m x wr (by omega) (hB.below hb))
      by_cases hq : x ∈ m
      · have e : decide (x ∈ m) = true := decide_eq_true hq
        rw [e] at cH
        simp only [e] at hst
        have HS := Lib.hid hst
        have HN := Lib.hid hN
        clear hst hx hN e hq
        go_wp2_with (first | (go_at_call 54; refine cH.out.mono ?_; rintro e w1 ⟨rfl, rfl⟩; dsimp only) | (at_builtin; refine app_one rfl (.tmp 20) (.tmp 25) rfl rfl HN.out x rfl rfl r1 r2 (by omega) hbs ?c1))
        case c1 =>
          intro A2 cap2 w2 L HL hN2 hb2
          have hb3 := hb.trans hb2
          have HN2 := Lib.hid hN2
          clear hN2 h3 cH
          go_wp2_with fail
          go_roundw
          case rel => exact ⟨i + 1, L, A2, cap2, by omega, by go_num, rfl, HN2.out, by show _ = _; rw [HL.out, HS.out]; rfl, hb3⟩
          case measure => simp [intOf]; omega
      · have e : decide (x ∈ m) = false := decide_eq_false hq
        rw [e] at cH
        simp only [e] at hst
        have HS := Lib.hid hst
        have HN := Lib.hid hN
        clear hst hx hN e hq
        go_wp2_with (go_at_call 54; refine cH.out.mono ?_; rintro e w1 ⟨rfl, rfl⟩; dsimp only)
        go_roundw
        case rel => exact ⟨i + 1, out, A1, cap1, by omega, by go_num, rfl, HN.out, by show _ = _; rw [HS.out]; exact (List.append_nil _).symm, hb⟩
        case measure => simp [intOf]; omega
    · obtain rfl : i = l.length := by omega
      have e : out = andL l m := by rw [HO.out, List.take_length]; rfl
      have HE := Lib.hid e
      have HN := Lib.hid hN
      clear e hN
      go_wp2_with fail
      go_ret
      exact ⟨⟨_, rfl, HE.out ▸ HN.out⟩, hb⟩
end Go.Proofs.YtdbifbgjbfnfmaaDoor
