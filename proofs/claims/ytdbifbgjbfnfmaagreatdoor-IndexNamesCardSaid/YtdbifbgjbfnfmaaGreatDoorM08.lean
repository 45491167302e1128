/-
  Texts of the same seat, one behind the other (merged; each says at its head what it is).
-/
import Derived.Test.YtdbifbgjbfnfmaaGreatDoorM06
import Derived.Test.YtdbifbgjbfnfmaaGreatDoorM01
import Derived.Deep.Onto
import Derived.Test.YtdbifbgjbfnfmaaGreatDoorM04
import Derived.Lib.IndexMore
import Derived.Lib.Strings
import Derived.Test.YtdbifbgjbfnfmaaGreatDoorM05
/-
  Layer 7 (index): rows of texts of the call's own; the document's put, Same, Names and Values.
-/
namespace Go.Proofs.YtdbifbgjbfnfmaaGreatDoor
open Go.RowKit Go.Deep
attribute [local go_sem] str_size str_append str_toList str_get str_extract
set_option linter.unusedVariables false
set_option linter.unusedSimpArgs false
theorem getL_short {l : List Lab} (h : okL l = true) (n : Txt) : (getL l n).length ≤ 4096 := by
  have h2 := okL_32 h
  clear h
  induction l with
  | nil => simp [getL]
  | cons x r ih =>
    unfold getL
    split
    · have := h2 x (by simp); omega
    · exact ih (fun y hy => h2 y (by simp [hy]))
def txtC (l : List Txt) : List Value := l.map fun s => .string (str s)
theorem txtC_append (l m : List Txt) : txtC (l ++ m) = txtC l ++ txtC m := by simp [txtC]
/-- A row of texts of the call's own. -/
structure TRow (w : World) (A : Option Addr) (cap : Nat) (l : List Txt) : Prop where
  own : w.ownsRow 0 9 1 (.slice A l.length cap) l.length (txtC l)
  rng : ∀ x ∈ l, x.length ≤ 4096
theorem TRow.below {w w' : World} {A : Option Addr} {cap : Nat} {l : List Txt} (h : TRow w A cap l) (hb : Below w.heap.size w w') : TRow w' A cap l := ⟨(Keeps.below (F := []) hb).row h.own (by simp), h.rng⟩
theorem TRow.drewN {w : World} {A : Option Addr} {cap : Nat} {l : List Txt} (h : TRow w A cap l) (n : Nat) : TRow (w.drewN n) A cap l := ⟨h.own, h.rng⟩
theorem TRow.empty (w : World) : TRow (w.alloc (.cells #[] 9)) (some ⟨w.heap.size, 0, none⟩) 0 [] :=
  ⟨(World.ownsRow_made (e := 9) (size := 1) w #[] 0 (Nat.le_refl _) (by unfold maxLen; omega) rfl).mono (Nat.zero_le _), by simp⟩
theorem TRow.nil (w : World) : TRow w none 0 [] := ⟨⟨rfl, .inl ⟨rfl, rfl⟩⟩, by simp⟩
/-- What it is to others. -/
theorem TRow.at {w : World} {A : Option Addr} {cap : Nat} {l : List Txt} (h : TRow w A cap l) : ∀ i (h : i < l.length), l[i].length ≤ 4096 ∧ ∃ ad, A = some ad ∧ (ad.add i).block < w.heap.size ∧ w.cell? (ad.add i) = some (.string (str l[i])) := by
  intro i hi
  rcases h.own.2 with ⟨e, h0⟩ | ⟨g, c, cur, e, hg, hb, hc, _⟩
  · omega
  · injection e with e1 e2 e3
    subst e1
    refine ⟨h.rng _ (List.getElem_mem hi), _, rfl, ?_, ?_⟩
    · have : ((⟨g, 0, none⟩ : Addr).add i).block = g := by unfold Addr.add; split <;> rfl
      rw [this]; exact lt_of_block hb
    · exact h.own.cells (g := g) rfl i (.string (str l[i])) (by simp [txtC, hi])
theorem str_info7 : (Tryz.prog.info? 9).map (fun i => (i.zero, i.size, i.bytes)) = some (some (.string (str [])), 1, 16) := by kernel_rfl
theorem app_txt {ops : Array Oper} {rest : List Oper} {o : Oper} {a : Act} {Q : Exit → Act → World → Prop} {w w0 : World} (hgd : o.guard = none) (s x : Operand)
    (ho : o.op = .call { callee := .builtin .append, args := #[s, x], argTypes := #[28, 28] })
    {B : Nat} {A : Option Addr} {cap : Nat} {l : List Txt} (hs : a.eval s = .slice A l.length cap) (hN : TRow w0 A cap l) (hF : ∀ k, (Value.slice A l.length cap).ownBlock = some k → B ≤ k) (n : Txt) (hx : a.eval x = .slice (some ⟨w0.heap.size, 0, none⟩) 1 1) (hw : w = w0.alloc (.cells #[.string (str n)] 9))
    (h1 : n.length ≤ 4096) (hlen : l.length ≤ 100000) (hB : B ≤ w0.heap.size)
    (h : ∀ A' cap' w' L, Hid (L = l ++ [n]) → TRow w' A' cap' L → (∀ k, (Value.slice A' L.length cap').ownBlock = some k → B ≤ k) → Below B w0 w' → wpList Tryz.prog ops Q rest (a.put o.dst (.slice A' L.length cap')) w') :
    wpList Tryz.prog ops Q (o :: rest) a w := by
  obtain ⟨i0, hi0, hz0, hz1, hz2⟩ := info_parts str_info7
  subst hw
  refine wpList_append_own_at _ hgd s x 28 ho 0 9 i0 (.string (str [])) 1 16 Tryz.underlying28 hi0 hz0 hz1 hz2 rfl (by decide) (.slice A l.length cap) l.length _ hs (hN.own.alloc _) ⟨w0.heap.size, 0, none⟩ 1 1 [.string (str n)] hx rfl (cell_one_new _ _ _) ?_ (by unfold maxLen; omega) (by omega) (Nat.zero_le _) ?_
  · intro u hu; simp at hu; subst hu; rfl
  · intro v' w' hown hg _ hat
    obtain ⟨A', cap', rfl⟩ := row_slice hown
    have e : (l ++ [n]).length = l.length + 1 := by simp
    rw [← e] at hown hat ⊢
    refine h A' cap' w' (l ++ [n]) rfl ⟨?_, ?_⟩ ?_ ?_
    · rw [txtC_append]; exact hown
    · intro y hy
      rcases List.mem_append.1 hy with hy | hy
      · exact hN.rng y hy
      · simp at hy; subst hy; exact h1
    · intro k hk
      rcases hat with e | e
      · rw [e] at hk; exact hF k hk
      · rw [e] at hk; injection hk with hk; simp at hk; omega
    · exact (((Below.refl B w0).alloc hB _).grown hg (by simp; omega) (fun k hk => hF k hk))
theorem take_next {l : List Txt} {i : Nat} {x : Txt} {r : List Txt} (h : i < l.length) (e : l.drop i = x :: r) : l.take (i + 1) = l.take i ++ [x] := by
  rw [List.take_succ_eq_append_getElem h]
  have := List.drop_eq_getElem_cons h
  rw [e] at this
  injection this with h1 _
  rw [h1]
theorem take_low {l : List Txt} {s : Txt} {i : Nat} (h : i < l.length) (hl : ∀ x ∈ l.take i, Lt x s) (hx : Lt l[i] s) : ∀ x ∈ l.take (i + 1), Lt x s := by
  rw [List.take_succ_eq_append_getElem h]
  intro x hm
  rcases List.mem_append.1 hm with hm | hm
  · exact hl x hm
  · simp at hm; subst hm; exact hx
set_option maxRecDepth 100000 in
set_option maxHeartbeats 1000000 in
theorem put_c (A : Option Addr) (cap : Nat) (l : List Txt) (s : Txt) (w : World) (hU : UpT l) (hl : l.length ≤ 10000) (hs : s.length ≤ 4096) (hA : TRow w A cap l) :
    Calls Tryz.prog 18 #[.slice A l.length cap, .string (str s)] w fun e w' => (∃ A1 c1, e = .returned (.slice A1 (putT l s).length c1) ∧ TRow w' A1 c1 (putT l s)) ∧ Below w.heap.size w w' := by
  go_enter Tryz.func18, Tryz.ntmps18
  go_wp2_with fail
  go_loopw [5, 6, 7] (fun v d c wr => ∃ (i : Nat) (out : List Txt) (b : Bool) (A1 : Option Addr) (cap1 : Nat), i ≤ l.length ∧ c = .int .i64 i ∧ d = .bool b ∧ v = .slice A1 out.length cap1 ∧ TRow wr A1 cap1 out ∧ (∀ k, (Value.slice A1 out.length cap1).ownBlock = some k → w.heap.size ≤ k) ∧
    Hid ((b = false → out = l.take i ∧ ∀ x ∈ l.take i, Lt x s) ∧ (b = true → out ++ l.drop i = putT l s ∧ ∀ x ∈ l.drop i, Lt s x)) ∧ Hid (out.length ≤ i + 1) ∧ Below w.heap.size w wr) (fun _ _ c _ => l.length - (intOf c).toNat)
  case atStart => exact ⟨0, [], false, _, _, Nat.zero_le _, rfl, rfl, rfl, TRow.empty w, fun k hk => by simp [Value.ownBlock] at hk; omega, ⟨fun _ => ⟨rfl, by simp⟩, fun e => (by cases e)⟩, by show _ ≤ _; simp, (Below.refl _ w).alloc (Nat.le_refl _) _⟩
  case round =>
    obtain ⟨i, out, b, A1, cap1, hi, rfl, rfl, rfl, hN, hF, HO, HL, hb⟩ := hrel
    have hbs := hb.size
    have hol : out.length ≤ 10002 := by have := HL.out; omega
    by_cases hlt : i < l.length
    · obtain ⟨r1, ad, rfl, h2, h3⟩ := hA.at i hlt
      have hdr : l.drop i = l[i] :: l.drop (i + 1) := List.drop_eq_getElem_cons hlt
      have hup : ∀ x ∈ l.drop (i + 1), Lt l[i] x := by
        have h := List.Pairwise.sublist (List.drop_sublist i l) hU
        rw [hdr, List.pairwise_cons] at h
        exact h.1
      have htl := fun hl hx => take_low (s := s) hlt hl hx
      have hmem : l[i] ∈ l := List.getElem_mem hlt
      obtain ⟨x, hx⟩ : ∃ x, l[i]'hlt = x := ⟨_, rfl⟩
      rw [hx] at h3 r1 hdr hup htl hmem
      have hg3 := h3
      have h3 := (hb.cell (p := ad.add i) h2).trans hg3
      have HG := Lib.hid hg3
      clear hg3
      have HD := Lib.hid (And.intro hdr (And.intro hup (And.intro htl hmem)))
      have HN := Lib.hid (And.intro hN hF)
      clear hdr hup htl hmem hx hN hF
      by_cases hq : x = s
      · subst hq
        have HR : Hid (putT l x = l) := putT_here hU HD.out.2.2.2
        have t1 : (x == x) = true := by simp
        have HA := Lib.hid (hA.below hb)
        clear HD
        go_wp2_with fail
        go_ret
        exact ⟨⟨some ad, cap, by rw [HR.out]; rfl, by rw [HR.out]; exact HA.out⟩, hb⟩
      · have t1 : (x == s) = false := by simpa using hq
        cases b with
        | false =>
          obtain ⟨ho, hlow⟩ := HO.out.1 rfl
          have HLn : Hid (out.length ≤ i) := by show _ ≤ _; rw [ho, List.length_take]; omega
          by_cases hs2 : Op.bytesLess s x = true
          · have HE : Hid (putT l s = (out ++ [s] ++ [x]) ++ l.drop (i + 1) ∧ ∀ y ∈ l.drop (i + 1), Lt s y) := by
              have h1 : ∀ y ∈ l.drop (i + 1), Lt s y := fun y hy => bl_trans hs2 (HD.out.2.1 y hy)
              refine ⟨?_, h1⟩
              have e : putT (l.take i ++ l.drop i) s = l.take i ++ putT (l.drop i) s := putT_far hlow
              rw [List.take_append_drop, HD.out.1, putT_low (fun y hy => (List.mem_cons.1 hy).elim (fun e => e ▸ hs2) (h1 y))] at e
              rw [e, ho]; simp
            clear hq ho hlow
            go_wp2_with (at_builtin; refine app_txt rfl (.tmp 32) (.tmp 34) rfl rfl HN.out.1 HN.out.2 s rfl rfl hs (by omega) hbs ?c1)
            case c1 =>
              intro A2 cap2 w2 L HL2 hN2 hF2 hb2
              have HN2 := Lib.hid (And.intro hN2 hF2)
              have h3 := (hb2.cell (p := ad.add i) h2).trans h3
              have hb2 := hb.trans hb2
              have hb2s := hb2.size
              have hl2 : L.length ≤ 10003 := by rw [HL2.out, List.length_append]; simp; omega
              clear hN2 hF2
              go_wp2_with (at_builtin; refine app_txt rfl (.tmp 36) (.tmp 41) rfl rfl HN2.out.1 HN2.out.2 x rfl rfl r1 (by omega) hb2s ?c2)
              case c2 =>
                intro A3 cap3 w3 M HM3 hN3 hF3 hb3
                have HN3 := Lib.hid (And.intro hN3 hF3)
                have hb3 := hb2.trans hb3
                clear hN3 hF3 h3
                go_wp2_with fail
                go_roundw
                case rel => exact ⟨i + 1, M, true, A3, cap3, by omega, by go_num, rfl, rfl, HN3.out.1, HN3.out.2, ⟨fun e => (by cases e), fun _ => ⟨by rw [HM3.out, HL2.out]; exact HE.out.1.symm, HE.out.2⟩⟩, by show _ ≤ _; rw [HM3.out, HL2.out]; have := HLn.out; simp; omega, hb3⟩
                case measure => simp [intOf]; omega
          · have t2 : Op.bytesLess s x = false := by simpa using hs2
            have hlt2 : Lt x s := by
              rcases lt_tri x s with k | k | k
              · exact k
              · exact absurd k hq
              · exact absurd k hs2
            have HE : Hid (out ++ [x] = l.take (i + 1) ∧ ∀ y ∈ l.take (i + 1), Lt y s) := by
              refine ⟨?_, HD.out.2.2.1 hlow hlt2⟩
              rw [ho]
              exact (take_next hlt HD.out.1).symm
            clear hq hs2 ho hlow hlt2
            go_wp2_with (at_builtin; refine app_txt rfl (.tmp 36) (.tmp 41) rfl rfl HN.out.1 HN.out.2 x rfl rfl r1 (by omega) hbs ?c1)
            case c1 =>
              intro A2 cap2 w2 L HL2 hN2 hF2 hb2
              have HN2 := Lib.hid (And.intro hN2 hF2)
              have hb2 := hb.trans hb2
              clear hN2 hF2 h3
              go_wp2_with fail
              go_roundw
              case rel => exact ⟨i + 1, L, false, A2, cap2, by omega, by go_num, rfl, rfl, HN2.out.1, HN2.out.2, ⟨fun _ => ⟨by rw [HL2.out]; exact HE.out.1, HE.out.2⟩, fun e => (by cases e)⟩, by show _ ≤ _; rw [HL2.out, List.length_append]; have := HLn.out; simp; omega, hb2⟩
              case measure => simp [intOf]; omega
        | true =>
          obtain ⟨ho, hlow⟩ := HO.out.2 rfl
          have HE : Hid ((out ++ [x]) ++ l.drop (i + 1) = putT l s ∧ ∀ y ∈ l.drop (i + 1), Lt s y) := by
            rw [HD.out.1] at ho hlow
            exact ⟨by rw [← ho]; simp, fun y hy => hlow y (by simp [hy])⟩
          clear hq ho hlow
          go_wp2_with (at_builtin; refine app_txt rfl (.tmp 36) (.tmp 41) rfl rfl HN.out.1 HN.out.2 x rfl rfl r1 (by omega) hbs ?c1)
          case c1 =>
            intro A2 cap2 w2 L HL2 hN2 hF2 hb2
            have HN2 := Lib.hid (And.intro hN2 hF2)
            have hb2 := hb.trans hb2
            clear hN2 hF2 h3
            go_wp2_with fail
            go_roundw
            case rel => exact ⟨i + 1, L, true, A2, cap2, by omega, by go_num, rfl, rfl, HN2.out.1, HN2.out.2, ⟨fun e => (by cases e), fun _ => ⟨by rw [HL2.out]; exact HE.out.1, HE.out.2⟩⟩, by show _ ≤ _; rw [HL2.out, List.length_append]; have := HL.out; simp; omega, hb2⟩
            case measure => simp [intOf]; omega
    · obtain rfl : i = l.length := by omega
      have HN := Lib.hid (And.intro hN hF)
      clear hN hF
      cases b with
      | false =>
        obtain ⟨ho, hlow⟩ := HO.out.1 rfl
        have HE : Hid (out ++ [s] = putT l s) := by
          rw [List.take_length] at ho hlow
          show _ = _
          have e : putT (l ++ []) s = l ++ putT [] s := putT_far hlow
          rw [List.append_nil] at e
          rw [e, ho]; rfl
        clear ho hlow
        go_wp2_with (at_builtin; refine app_txt rfl (.tmp 45) (.tmp 47) rfl rfl HN.out.1 HN.out.2 s rfl rfl hs (by omega) hbs ?c1)
        case c1 =>
          intro A2 cap2 w2 L HL2 hN2 hF2 hb2
          have HN2 := Lib.hid hN2
          have hb2 := hb.trans hb2
          have HE2 : Hid (L = putT l s) := HL2.out.trans HE.out
          clear hN2 hF2
          go_wp2_with fail
          go_ret
          exact ⟨⟨A2, cap2, HE2.out ▸ rfl, HE2.out ▸ HN2.out⟩, hb2⟩
      | true =>
        have HE : Hid (out = putT l s) := by
          have := (HO.out.2 rfl).1
          rwa [List.drop_length, List.append_nil] at this
        go_wp2_with fail
        go_ret
        exact ⟨⟨A1, cap1, HE.out ▸ rfl, HE.out ▸ HN.out.1⟩, hb⟩
theorem sameT_c (A A' : Option Addr) (cap cap' : Nat) (l m : List Txt) (w : World) (hl : l.length ≤ 100000) (hm : m.length ≤ 100000) (hA : TRow w A cap l) (hB : TRow w A' cap' m) :
    Calls Tryz.prog 7 #[.slice A l.length cap, .slice A' m.length cap'] w fun e w' => e = .returned (.bool (decide (l = m))) ∧ Below w.heap.size w w' := by
  by_cases hlen : l.length = m.length
  · obtain ⟨r, hr⟩ : ∃ r, decide (l = m) = r := ⟨_, rfl⟩
    rw [hr]
    have HR := Lib.hid hr
    clear hr
    go_enter Tryz.func7, Tryz.ntmps7
    go_wp2_with fail
    go_loopw [5] (fun c wr => ∃ i : Nat, i ≤ l.length ∧ c = .int .i64 i ∧ Hid (l.take i = m.take i) ∧ Below w.heap.size w wr) (fun c _ => l.length - (intOf c).toNat)
    case atStart => exact ⟨0, Nat.zero_le _, rfl, rfl, Below.refl _ _⟩
    case round =>
      obtain ⟨i, hi, rfl, heq, hb⟩ := hrel
      by_cases hlt : i < l.length
      · obtain ⟨r1, ad, rfl, h2, h3⟩ := (hA.below hb).at i hlt
        obtain ⟨s1, ad', rfl, k2, k3⟩ := (hB.below hb).at i (by omega)
        have hx := List.take_succ_eq_append_getElem hlt
        have hy := List.take_succ_eq_append_getElem (l := m) (i := i) (by omega)
        have hne : l[i] ≠ m[i] → l ≠ m := by rintro h rfl; exact h rfl
        obtain ⟨x, hx0⟩ : ∃ x, l[i]'hlt = x := ⟨_, rfl⟩
        obtain ⟨y, hy0⟩ : ∃ x, m[i]'(by omega) = x := ⟨_, rfl⟩
        rw [hx0] at r1 h3 hx hne
        rw [hy0] at s1 k3 hy hne
        have HX := Lib.hid (And.intro hx hy)
        clear hx hy hx0 hy0
        by_cases hq : x = y
        · subst hq
          have h5 : (x == x) = true := by simp
          clear hne
          go_wp2_with fail
          go_quiet (fail)
          go_wp2_with fail
          go_roundw
          case rel =>
            refine ⟨i + 1, by omega, by go_num, ?_, below_drewN hb _⟩
            show _ = _
            rw [HX.out.1, HX.out.2, heq.out]
          case measure => simp [intOf]; omega
        · have he : decide (l = m) = false := decide_eq_false (hne hq)
          rw [HR.out] at he
          have HE := Lib.hid he
          have h5 : (x == y) = false := by rw [beq_eq_false_iff_ne]; exact hq
          clear he hq hne
          go_wp2_with fail
          go_quiet (fail)
          go_wp2_with fail
          go_ret
          exact ⟨ret_bool HE.out.symm, below_drewN hb _⟩
      · obtain rfl : i = l.length := by omega
        have he : decide (l = m) = true := by
          have h := heq.out
          rw [List.take_length, hlen, List.take_length] at h
          exact decide_eq_true h
        rw [HR.out] at he
        have HE := Lib.hid he
        clear he
        go_wp2_with fail
        go_ret
        exact ⟨ret_bool HE.out.symm, hb⟩
  · have he : decide (l = m) = false := by
      apply decide_eq_false; intro e; exact hlen (by rw [e])
    rw [he]
    go_enter Tryz.func7, Tryz.ntmps7
    go_wp2_with fail
    go_ret
    exact ⟨rfl, Below.refl _ _⟩
set_option maxRecDepth 100000 in
set_option maxHeartbeats 1000000 in
theorem refValues_c (F : List Nat) (p : Nat) (X : Ix) (name : Txt) (w : World) (h : RefX F p X w) (hn : name.length ≤ 4096) :
    Calls Tryz.prog 9 #[.pointer (some ⟨p, 0, none⟩), .string (str name)] w fun e w' => (∃ A1 c1, e = .returned (.slice A1 (valuesX X name).length c1) ∧ TRow w' A1 c1 (valuesX X name)) ∧ Below w.heap.size w w' := by
  obtain ⟨B, c, h1, h2⟩ := h.at
  have hc := blk_cell h1 0
  simp only [List.getElem?_toArray, List.getElem?_cons_zero] at hc
  have hX := h.good.few
  have hok := Lib.hid h.good.ok
  have HC := Lib.hid (fun (W : World) (hW : Below w.heap.size w W) => (hW.cell (p := ⟨p, 0, none⟩) (lt_of_block h1)).trans hc)
  have cg := Lib.hid (fun A l cap W (hA : LAt W A l.length l) (ho : okL l = true) => refGet_c A l.length cap l name W (by have := (labs_small ho).1; omega) hA (fun x hx => by have := okL_32 ho x hx; omega))
  clear h1 hc h
  go_enter Tryz.func9, Tryz.ntmps9
  go_wp2_with fail
  go_loopw [5, 6] (fun v c wr => ∃ (i : Nat) (out : List Txt) (A1 : Option Addr) (cap1 : Nat), i ≤ X.length ∧ c = .int .i64 i ∧ v = .slice A1 out.length cap1 ∧ TRow wr A1 cap1 out ∧ Hid (out = valuesX (X.take i) name) ∧ Below w.heap.size w wr) (fun _ c _ => X.length - (intOf c).toNat)
  case atStart => exact ⟨0, [], _, _, Nat.zero_le _, rfl, rfl, TRow.empty w, rfl, (Below.refl _ w).alloc (Nat.le_refl _) _⟩
  case round =>
    obtain ⟨i, out, A1, cap1, hi, rfl, rfl, hN, HO, hb⟩ := hrel
    have hbs := hb.size
    have hc := HC.out _ hb
    by_cases hlt : i < X.length
    · obtain ⟨ad, Ai, ci, rfl, k2, k3, k4, k5⟩ := h2.2.2 i hlt
      have k3 := (hb.cell (p := ad.add i) k2).trans k3
      have ho := hok.out _ (List.getElem_mem hlt)
      have hst := valuesX_take X name i hlt
      have hu := valuesX_is (X.take i) name
      rw [← HO.out] at hst hu
      have hol : out.length ≤ 200 := by have := hu.2; rw [List.length_take] at this; omega
      obtain ⟨l, hl⟩ : ∃ l, X[i]'hlt = l := ⟨_, rfl⟩
      rw [hl] at k3 k4 hst ho
      have CG := Lib.hid (cg.out Ai l ci wr (k4.below hb) ho)
      obtain ⟨v, hv⟩ : ∃ v, getL l name = v := ⟨_, rfl⟩
      rw [hv] at CG
      have hvl : v.length ≤ 4096 := by rw [← hv]; exact getL_short ho name
      have HN := Lib.hid hN
      unfold val1 at hst
      rw [hv] at hst
      have HU := Lib.hid hu.1.1
      by_cases hq : v = []
      · subst hq
        rw [if_pos rfl] at hst
        have HS := Lib.hid hst
        have t1 : (([] : Txt) == []) = true := by rfl
        clear hst hu hl k4 k5 ho hN hv
        go_wp2_with fail
        refine CG.out.mono ?_
        rintro e w1 ⟨rfl, rfl⟩
        go_wp2_with fail
        go_roundw
        case rel => exact ⟨i + 1, out, A1, cap1, by omega, by go_num, rfl, HN.out, HS.out.symm, hb⟩
        case measure => simp [intOf]; omega
      · rw [if_neg hq] at hst
        have HS := Lib.hid hst
        have t1 : (v == []) = false := by simpa using hq
        clear hst hu hl k4 k5 ho hN hv hq
        go_wp2_with fail
        refine CG.out.mono ?_
        rintro e w1 ⟨rfl, rfl⟩
        go_wp2_with fail
        refine (put_c A1 cap1 out v wr HU.out (by omega) hvl HN.out).mono ?_
        rintro e w2 ⟨⟨A2, c2, rfl, hN2⟩, hb2⟩
        have HN2 := Lib.hid hN2
        have hb2 := below2 hb hb2 hbs
        clear hN2
        go_wp2_with fail
        go_roundw
        case rel => exact ⟨i + 1, _, A2, c2, by omega, by go_num, rfl, HN2.out, HS.out.symm, hb2⟩
        case measure => simp [intOf]; omega
    · obtain rfl : i = X.length := by omega
      have e := HO.out
      rw [List.take_length] at e
      have HE := Lib.hid e
      have HN := Lib.hid hN
      clear e hN
      go_wp2_with fail
      go_ret
      exact ⟨⟨A1, cap1, HE.out ▸ rfl, HE.out ▸ HN.out⟩, hb⟩
theorem names1_part {X : Ix} (i k : Nat) (h : i < X.length) (hk : k ≤ X[i].length) (h8 : ∀ l ∈ X, l.length ≤ 8) (hX : X.length ≤ 200) : UpT (names1 (namesX (X.take i)) (X[i].take k)) ∧ (names1 (namesX (X.take i)) (X[i].take k)).length ≤ 2000 := by
  have h1 := namesX_is (X.take i) (fun l hl => h8 l (List.mem_of_mem_take hl))
  have h2 := names1_is (X[i].take k) _ h1.1.1
  have h3 := h8 _ (List.getElem_mem h)
  refine ⟨h2.1, ?_⟩
  have h4 := h2.2.2
  have h5 := h1.2
  rw [List.length_take] at h4 h5
  omega
set_option maxRecDepth 100000 in
set_option maxHeartbeats 1000000 in
theorem refNames_c (F : List Nat) (p : Nat) (X : Ix) (w : World) (h : RefX F p X w) :
    Calls Tryz.prog 6 #[.pointer (some ⟨p, 0, none⟩)] w fun e w' => (∃ A1 c1, e = .returned (.slice A1 (namesX X).length c1) ∧ TRow w' A1 c1 (namesX X)) ∧ Below w.heap.size w w' := by
  obtain ⟨B, c, h1, h2⟩ := h.at
  have hc := blk_cell h1 0
  simp only [List.getElem?_toArray, List.getElem?_cons_zero] at hc
  have hX := h.good.few
  have hok := Lib.hid h.good.ok
  have h8 : Hid (∀ l ∈ X, l.length ≤ 8) := fun l hl => (labs_small (h.good.ok l hl)).1
  have HC := Lib.hid (fun (W : World) (hW : Below w.heap.size w W) => (hW.cell (p := ⟨p, 0, none⟩) (lt_of_block h1)).trans hc)
  clear h1 hc h
  go_enter Tryz.func6, Tryz.ntmps6
  go_wp2_with fail
  go_loopw [3, 4] (fun v c wr => ∃ (i : Nat) (out : List Txt) (A1 : Option Addr) (cap1 : Nat), i ≤ X.length ∧ c = .int .i64 i ∧ v = .slice A1 out.length cap1 ∧ TRow wr A1 cap1 out ∧ Hid (out = namesX (X.take i)) ∧ Below w.heap.size w wr) (fun _ c _ => X.length - (intOf c).toNat)
  case atStart => exact ⟨0, [], _, _, Nat.zero_le _, rfl, rfl, TRow.empty w, rfl, (Below.refl _ w).alloc (Nat.le_refl _) _⟩
  case round =>
    obtain ⟨i, out, A1, cap1, hi, rfl, rfl, hN, HO, hb⟩ := hrel
    have hbs := hb.size
    have hc := HC.out _ hb
    by_cases hlt : i < X.length
    · obtain ⟨ad, Ai, ci, rfl, k2, k3, k4, k5⟩ := h2.2.2 i hlt
      have hg3 := k3
      have k3 := (hb.cell (p := ad.add i) k2).trans hg3
      have ho := hok.out _ (List.getElem_mem hlt)
      have hpart := fun k hk => names1_part i k hlt hk h8.out hX
      have hst := namesX_take X i hlt
      rw [← HO.out] at hst hpart
      obtain ⟨l, hl⟩ : ∃ l, X[i]'hlt = l := ⟨_, rfl⟩
      rw [hl] at hg3 k3 k4 hst ho hpart
      have hl8 := (labs_small ho).1
      have h32 := okL_32 ho
      have HG := Lib.hid (fun (W : World) (hW : Below w.heap.size w W) => (hW.cell (p := ad.add i) k2).trans hg3)
      have HL := Lib.hid (And.intro k4 (And.intro h32 (And.intro hst hpart)))
      have HN := Lib.hid hN
      clear hst hl k4 k5 ho hN hg3 h32 hpart
      obtain ⟨wo, rfl⟩ : ∃ wo : World, wo = wr := ⟨_, rfl⟩
      go_wp2_with fail
      go_loopw [3, 5] (fun v c wr => ∃ (k : Nat) (o2 : List Txt) (A1 : Option Addr) (cap1 : Nat), k ≤ l.length ∧ c = .int .i64 k ∧ v = .slice A1 o2.length cap1 ∧ TRow wr A1 cap1 o2 ∧ Hid (o2 = names1 out (l.take k)) ∧ Below w.heap.size w wr) (fun _ c _ => l.length - (intOf c).toNat)
      case atStart => exact ⟨0, out, A1, cap1, Nat.zero_le _, rfl, rfl, HN.out, rfl, hb⟩
      case round =>
        clear hc k3 hbs
        obtain ⟨k, o2, A2, cap2, hk, rfl, rfl, hN2, HO2, hb2⟩ := hrel
        have hb2s := hb2.size
        have hc := HC.out _ hb2
        have k3 := HG.out _ hb2
        by_cases hkt : k < l.length
        · obtain ⟨⟨r1, r2⟩, ad2, rfl, q2, q3, q4⟩ := (HL.out.1.below hb2).2 k hkt
          have hs2 := names1_take out l k hkt
          have hp := HL.out.2.2.2 k hk
          rw [← HO2.out] at hs2 hp
          have h32 := (HL.out.2.1 _ (List.getElem_mem hkt)).1
          obtain ⟨x, hx⟩ : ∃ x, (l[k]'hkt).1 = x := ⟨_, rfl⟩
          rw [hx] at q3 hs2 h32 r1
          have HS := Lib.hid hs2
          have HP := Lib.hid hp
          have HN2 := Lib.hid hN2
          clear hs2 hp hx q4 hN2
          go_wp2_with fail
          refine (put_c A2 cap2 o2 x wr HP.out.1 (by have := HP.out.2; omega) (by omega) HN2.out).mono ?_
          rintro e w2 ⟨⟨A3, c3, rfl, hN3⟩, hb3⟩
          have HN3 := Lib.hid hN3
          have hb3 := below2 hb2 hb3 hb2s
          clear hN3 q3
          go_wp2_with fail
          go_roundw
          case rel => exact ⟨k + 1, _, A3, c3, by omega, by go_num, rfl, HN3.out, HS.out.symm, hb3⟩
          case measure => simp [intOf]; omega
        · obtain rfl : k = l.length := by omega
          have e := HO2.out
          rw [List.take_length] at e
          have HE : Hid (o2 = namesX (X.take (i + 1))) := e.trans HL.out.2.2.1.symm
          have HN2 := Lib.hid hN2
          clear e hN2
          go_wp2_with fail
          go_roundw
          case rel => exact ⟨i + 1, o2, A2, cap2, by omega, by go_num, rfl, HN2.out, HE.out, hb2⟩
          case measure => simp [intOf]; omega
    · obtain rfl : i = X.length := by omega
      have e := HO.out
      rw [List.take_length] at e
      have HE := Lib.hid e
      have HN := Lib.hid hN
      clear e hN
      go_wp2_with fail
      go_ret
      exact ⟨⟨A1, cap1, HE.out ▸ rfl, HE.out ▸ HN.out⟩, hb⟩
end Go.Proofs.YtdbifbgjbfnfmaaGreatDoor
/-
  Layer 4 (label): what the program's Check returns; all that was in memory stays.
-/
namespace Go.Proofs.YtdbifbgjbfnfmaaGreatDoor
open Go.RowKit Go.Deep
attribute [local go_sem] str_size str_append str_toList str_get str_extract
set_option linter.unusedVariables false
set_option linter.unusedSimpArgs false
set_option maxHeartbeats 1000000 in
theorem check_c (A : Option Addr) (len cap : Nat) (l : List Lab) (w : World) (hl : len ≤ 140737488355328) (hA : LAt w A len l) (hz : ∀ x ∈ l, x.1.length ≤ 16384 ∧ x.2.length ≤ 16384) (hT : Lib.Utf8Tabs 1 2 w) :
    Calls Tryz.prog 41 #[.slice A len cap] w fun e w' => e = .returned (.int .i64 (eOf (okL l))) ∧ Below w.heap.size w w' := by
  have hle := hA.1
  subst hle
  by_cases h8 : 8 < (l.length : Int)
  · rw [okL_long (by omega)]
    go_enter Tryz.func41, Tryz.ntmps41
    go_wp2
    go_ret
    exact ⟨rfl, Below.refl _ _⟩
  rw [okL_of (by omega)]
  obtain ⟨R, hR⟩ : ∃ R, okFrom [] l = R := ⟨_, rfl⟩
  rw [hR]
  have HR := Lib.hid hR
  clear hR
  go_enter Tryz.func41, Tryz.ntmps41
  go_wp2_with fail
  go_loopw [3, 11] (fun a c wr => ∃ i : Nat, ∃ p : List UInt8, i ≤ l.length ∧ c = .int .i64 i ∧ a = .string (str p) ∧ p.length ≤ 16384 ∧ Hid (okFrom p (l.drop i) = R) ∧ Below w.heap.size w wr) (fun _ c _ => l.length - (intOf c).toNat)
  case atStart => exact ⟨0, [], Nat.zero_le _, rfl, rfl, by simp, HR.out, Below.refl _ _⟩
  case round =>
    obtain ⟨i, p, hi, rfl, rfl, hp, HI, hb⟩ := hrel
    have hsz := hb.size
    by_cases hlt : i < l.length
    · obtain ⟨-, ad, rfl, h2, h3, h4⟩ := (hA.below hb).2 i hlt
      have hT2 := Utf8Tabs_below hT hb
      have hst := okFrom_at (a := p) hlt
      rw [HI.out] at hst
      obtain ⟨z1, z2⟩ := hz _ (List.getElem_mem hlt)
      obtain ⟨x, hx⟩ : ∃ x, l[i]'hlt = x := ⟨_, rfl⟩
      rw [hx] at hst h3 h4 z1 z2
      obtain ⟨n, v⟩ := x
      simp only at hst h3 h4 z1 z2
      have hord := less_trans_like n p
      have HST := Lib.hid hst
      have HORD := Lib.hid hord
      have c1 := fun W => name_c n W (by omega)
      have c2 := fun W h => value_c v W (by omega) h
      have hq0 := blk_new wr (.cells #[.string (str n), .string (str v)] 40)
      have hTa : Lib.Utf8Tabs 1 2 (wr.alloc (.cells #[.string (str n), .string (str v)] 40)) := Utf8Tabs_below hT2 ((Below.refl _ _).alloc (Nat.le_refl _) _)
      have hba : Below w.heap.size w (wr.alloc (.cells #[.string (str n), .string (str v)] 40)) := hb.alloc hsz _
      have hsa : w.heap.size ≤ (wr.alloc (.cells #[.string (str n), .string (str v)] 40)).heap.size := by simp; omega
      clear hst hord hx
      cases hN : nameL n with
      | false =>
        have e := HST.out
        rw [hN, Bool.false_and] at e
        subst e
        rw [hN] at c1
        clear hN c2 hTa
        go_wp2_with (go_at_call 34; refine (c1 _).mono ?_; rintro e w1 ⟨rfl, hb1⟩; have hq1 : w1.heap[wr.heap.size]? = some (.cells #[.string (str n), .string (str v)] 40 (0, 0)) := (hb1.block _ (by simp)).trans hq0; have d0 := blk_cell hq1 0; have d1 := blk_cell hq1 1; simp only [List.getElem?_toArray, List.getElem?_cons_zero, List.getElem?_cons_succ] at d0 d1)
        go_ret
        exact ⟨rfl, hba.trans (hb1.mono hsa)⟩
      | true =>
      rw [hN] at c1
      cases hV : valueL v with
      | false =>
        have e := HST.out
        rw [hN, hV, Bool.true_and, Bool.false_and] at e
        subst e
        rw [hV] at c2
        clear hN hV
        go_wp2_with (first | (go_at_call 34; refine (c1 _).mono ?_; rintro e w1 ⟨rfl, hb1⟩; have hq1 : w1.heap[wr.heap.size]? = some (.cells #[.string (str n), .string (str v)] 40 (0, 0)) := (hb1.block _ (by simp)).trans hq0; have d0 := blk_cell hq1 0; have d1 := blk_cell hq1 1; simp only [List.getElem?_toArray, List.getElem?_cons_zero, List.getElem?_cons_succ] at d0 d1) | (go_at_call 60; refine (c2 _ (Utf8Tabs_below hTa hb1)).mono ?_; rintro e w2 ⟨rfl, hb2⟩; have hq2 : w2.heap[wr.heap.size]? = some (.cells #[.string (str n), .string (str v)] 40 (0, 0)) := (hb2.block _ (lt_of_block hq1)).trans hq1; have f0 := blk_cell hq2 0; have f1 := blk_cell hq2 1; simp only [List.getElem?_toArray, List.getElem?_cons_zero, List.getElem?_cons_succ] at f0 f1))
        go_ret
        exact ⟨rfl, (hba.trans (hb1.mono hsa)).trans (hb2.mono (by have := hb1.size; omega))⟩
      | true =>
      rw [hV] at c2
      have hne := nameL_ne hN
      by_cases hv0 : v = []
      · have e := HST.out
        rw [hN, hV, Bool.true_and, Bool.true_and, hv0] at e
        simp only [beq_self_eq_true, Bool.not_true, Bool.false_and] at e
        subst e
        clear hN hV
        have tv : (v == []) = true := by rw [hv0]; rfl
        clear hv0
        go_wp2_with (first | (go_at_call 34; refine (c1 _).mono ?_; rintro e w1 ⟨rfl, hb1⟩; have hq1 : w1.heap[wr.heap.size]? = some (.cells #[.string (str n), .string (str v)] 40 (0, 0)) := (hb1.block _ (by simp)).trans hq0; have d0 := blk_cell hq1 0; have d1 := blk_cell hq1 1; simp only [List.getElem?_toArray, List.getElem?_cons_zero, List.getElem?_cons_succ] at d0 d1) | (go_at_call 60; refine (c2 _ (Utf8Tabs_below hTa hb1)).mono ?_; rintro e w2 ⟨rfl, hb2⟩; have hq2 : w2.heap[wr.heap.size]? = some (.cells #[.string (str n), .string (str v)] 40 (0, 0)) := (hb2.block _ (lt_of_block hq1)).trans hq1; have f0 := blk_cell hq2 0; have f1 := blk_cell hq2 1; simp only [List.getElem?_toArray, List.getElem?_cons_zero, List.getElem?_cons_succ] at f0 f1))
        go_ret
        exact ⟨rfl, (hba.trans (hb1.mono hsa)).trans (hb2.mono (by have := hb1.size; omega))⟩
      have tv : (v == []) = false := by rw [beq_eq_false_iff_ne]; exact hv0
      cases hL : Op.bytesLess p n with
      | false =>
        have e := HST.out
        rw [hN, hV, hL, Bool.true_and, Bool.true_and, tv, Bool.false_and, Bool.and_false] at e
        subst e
        have tl : (Op.bytesLess n p || n == p) = true := by have := HORD.out; rw [hL] at this; revert this; generalize (Op.bytesLess n p || n == p) = q; cases q <;> simp
        clear hN hV hL hv0
        go_wp2_with (first | (go_at_call 34; refine (c1 _).mono ?_; rintro e w1 ⟨rfl, hb1⟩; have hq1 : w1.heap[wr.heap.size]? = some (.cells #[.string (str n), .string (str v)] 40 (0, 0)) := (hb1.block _ (by simp)).trans hq0; have d0 := blk_cell hq1 0; have d1 := blk_cell hq1 1; simp only [List.getElem?_toArray, List.getElem?_cons_zero, List.getElem?_cons_succ] at d0 d1) | (go_at_call 60; refine (c2 _ (Utf8Tabs_below hTa hb1)).mono ?_; rintro e w2 ⟨rfl, hb2⟩; have hq2 : w2.heap[wr.heap.size]? = some (.cells #[.string (str n), .string (str v)] 40 (0, 0)) := (hb2.block _ (lt_of_block hq1)).trans hq1; have f0 := blk_cell hq2 0; have f1 := blk_cell hq2 1; simp only [List.getElem?_toArray, List.getElem?_cons_zero, List.getElem?_cons_succ] at f0 f1))
        go_ret
        exact ⟨rfl, (hba.trans (hb1.mono hsa)).trans (hb2.mono (by have := hb1.size; omega))⟩
      | true =>
        have e := HST.out
        rw [hN, hV, hL, Bool.true_and, Bool.true_and, tv, Bool.true_and, Bool.not_false, Bool.true_and] at e
        have HE := Lib.hid e
        have tl : (Op.bytesLess n p || n == p) = false := by have := HORD.out; rw [hL] at this; revert this; generalize (Op.bytesLess n p || n == p) = q; cases q <;> simp
        clear hN hV hL hv0 e
        go_wp2_with (first | (go_at_call 34; refine (c1 _).mono ?_; rintro e w1 ⟨rfl, hb1⟩; have hq1 : w1.heap[wr.heap.size]? = some (.cells #[.string (str n), .string (str v)] 40 (0, 0)) := (hb1.block _ (by simp)).trans hq0; have d0 := blk_cell hq1 0; have d1 := blk_cell hq1 1; simp only [List.getElem?_toArray, List.getElem?_cons_zero, List.getElem?_cons_succ] at d0 d1) | (go_at_call 60; refine (c2 _ (Utf8Tabs_below hTa hb1)).mono ?_; rintro e w2 ⟨rfl, hb2⟩; have hq2 : w2.heap[wr.heap.size]? = some (.cells #[.string (str n), .string (str v)] 40 (0, 0)) := (hb2.block _ (lt_of_block hq1)).trans hq1; have f0 := blk_cell hq2 0; have f1 := blk_cell hq2 1; simp only [List.getElem?_toArray, List.getElem?_cons_zero, List.getElem?_cons_succ] at f0 f1))
        go_roundw
        case rel => exact ⟨i + 1, n, by omega, by go_num, rfl, z1, HE.out.symm, (hba.trans (hb1.mono hsa)).trans (hb2.mono (by have := hb1.size; omega))⟩
        case measure => simp [intOf]; omega
    · obtain rfl : i = l.length := by omega
      have e := HI.out
      rw [okFrom_end] at e
      subst e
      go_wp2_with fail
      go_ret
      exact ⟨rfl, hb⟩
end Go.Proofs.YtdbifbgjbfnfmaaGreatDoor
/-
  Layer 4 (label): what the program's Print returns; all that was in memory stays.
-/
namespace Go.Proofs.YtdbifbgjbfnfmaaGreatDoor
open Go.RowKit Go.Deep
attribute [local go_sem] str_size str_append str_toList str_get str_extract
set_option linter.unusedVariables false
set_option linter.unusedSimpArgs false
end Go.Proofs.YtdbifbgjbfnfmaaGreatDoor
/-
  Layer 4 (label): how a text is taken apart, plain: cutting at '=', taking off what stands at the ends. No program is named.
-/
namespace Go.Proofs.YtdbifbgjbfnfmaaGreatDoor
open Go.RowKit Go.Deep

theorem cut_cons (c : UInt8) (s : List UInt8) : Lib.cut (c :: s) [61] = if c.toNat = 61 then ([], s, true) else (match Lib.cut s [61] with | (a, b, true) => (c :: a, b, true) | (_, _, false) => (c :: s, [], false)) := by
  have hp : ([61] : List UInt8).isPrefixOf (c :: s) = decide (c.toNat = 61) := by
    simp only [List.isPrefixOf, Bool.and_true]
    rw [Bool.eq_iff_iff]
    simp only [beq_iff_eq, decide_eq_true_eq]
    constructor
    · intro h; rw [← h]; rfl
    · intro h; exact (u8_eq (by rw [h]; rfl))
  by_cases h : c.toNat = 61
  · rw [if_pos h]
    have hi : Lib.index (c :: s) [61] = 0 := by rw [Lib.index, hp]; simp [h]
    unfold Lib.cut
    rw [hi]
    simp
  · rw [if_neg h]
    have hi : Lib.index (c :: s) [61] = if Lib.index s [61] == -1 then -1 else Lib.index s [61] + 1 := by rw [Lib.index, hp]; simp [h]
    have hge := Lib.index_ge s [61]
    unfold Lib.cut
    rw [hi]
    by_cases h1 : Lib.index s [61] = -1
    · rw [h1]; simp
    · obtain ⟨j, hj⟩ : ∃ j : Nat, Lib.index s [61] = j := ⟨(Lib.index s [61]).toNat, by omega⟩
      rw [hj]
      have hb : (((j : Nat) : Int) == -1) = false := by rw [beq_eq_false_iff_ne]; omega
      rw [hb]
      simp only [Bool.false_eq_true, if_false]
      rw [if_pos (by omega), if_pos (by omega)]
      have e1 : ((j : Int) + 1).toNat = j + 1 := by omega
      rw [e1, Int.toNat_natCast]
      simp
theorem cut_E (s : List UInt8) : Lib.cut s [61] = (match cutE s with | some (a, b) => (a, b, true) | none => (s, [], false)) := by
  induction s with
  | nil => rfl
  | cons c s ih =>
    rw [cut_cons, cutE, ih]
    by_cases h : c.toNat = 61
    · rw [if_pos h, if_pos h]
    · rw [if_neg h, if_neg h]
      cases cutE s with
      | none => rfl
      | some x => obtain ⟨a, b⟩ := x; rfl
theorem cutE_len {s a b : List UInt8} (h : cutE s = some (a, b)) : a.length + b.length + 1 = s.length := by
  induction s generalizing a b with
  | nil => simp [cutE] at h
  | cons c s ih =>
    rw [cutE] at h
    by_cases hc : c.toNat = 61
    · rw [if_pos hc] at h
      injection h with h
      injection h with h1 h2
      subst h1 h2; simp
    · rw [if_neg hc] at h
      cases hs : cutE s with
      | none => rw [hs] at h; cases h
      | some x =>
        obtain ⟨a', b'⟩ := x
        rw [hs] at h
        injection h with h
        injection h with h1 h2
        have := ih hs
        subst h1 h2; simp; omega
theorem trimP_tail (r : List Lab) : Lib.trimPrefix (tailB r) [44] = printB r := by
  cases r with
  | nil => rfl
  | cons x r => simp [tailB, printB, Lib.trimPrefix, Lib.hasPrefix, List.isPrefixOf]
theorem trimP_len (s p : List UInt8) : (Lib.trimPrefix s p).length ≤ s.length := by
  unfold Lib.trimPrefix; split <;> simp
theorem trimS_len (s p : List UInt8) : (Lib.trimSuffix s p).length ≤ s.length := by
  unfold Lib.trimSuffix; split <;> simp
theorem trim_print (l : List Lab) : Lib.trimSuffix (Lib.trimPrefix (printL l) [123]) [125] = printB l := by
  have e1 : Lib.trimPrefix (printL l) [123] = printB l ++ [125] := by
    simp [printL, Lib.trimPrefix, Lib.hasPrefix, List.isPrefixOf]
  rw [e1]
  have e2 : Lib.hasSuffix (printB l ++ [125]) [125] = true := by
    unfold Lib.hasSuffix
    rw [List.isSuffixOf_iff_suffix]
    exact ⟨printB l, rfl⟩
  unfold Lib.trimSuffix
  rw [if_pos e2]
  simp
/-- What unquote answers. -/
def unqL (s : List UInt8) : List UInt8 × List UInt8 × Bool := match scan (s.drop 1) with
  | some (v, b) => (v, b, true)
  | none => ([], [], false)
/-- The only labels of which s could still be the text: acc, and those whose inside is rest. -/
def Goes (s : List UInt8) (acc : List Lab) (rest : List UInt8) : Prop := ∀ L, okL L = true → printL L = s → ∃ r, L = acc ++ r ∧ printB r = rest
theorem Goes.start (s : List UInt8) : Goes s [] (Lib.trimSuffix (Lib.trimPrefix s [123]) [125]) := by
  rintro L hL rfl
  exact ⟨L, rfl, (trim_print L).symm⟩
theorem Goes.done {s : List UInt8} {acc : List Lab} (h : Goes s acc []) : ∀ L, okL L = true → printL L = s → L = acc := by
  intro L hL hs
  obtain ⟨r, h1, h2⟩ := h L hL hs
  cases r with
  | nil => simpa using h1
  | cons x r => exact absurd h2 printB_ne
/-- One label more. -/
theorem Goes.more {s : List UInt8} {acc : List Lab} {rest : List UInt8} (h : Goes s acc rest) (hne : rest ≠ []) : ∀ L, okL L = true → printL L = s → ∃ x r, L = acc ++ x :: r ∧ cutE rest = some (x.1, 34 :: (quoteB x.2 ++ 34 :: tailB r)) ∧ scan (quoteB x.2 ++ 34 :: tailB r) = some (x.2, tailB r) := by
  intro L hL hs
  obtain ⟨r, h1, h2⟩ := h L hL hs
  cases r with
  | nil => exact absurd h2.symm hne
  | cons x r =>
    have hx : nameL x.1 = true := (okL_mem hL x (by rw [h1]; simp)).1
    exact ⟨x, r, h1, by rw [← h2]; exact cutE_print hx, scan_quote _ _⟩
theorem Goes.noCut {s : List UInt8} {acc : List Lab} {rest : List UInt8} (h : Goes s acc rest) (hne : rest ≠ []) (hc : cutE rest = none) : ∀ L, okL L = true → printL L ≠ s := by
  intro L hL hs
  obtain ⟨x, r, _, h2, _⟩ := h.more hne L hL hs
  rw [hc] at h2; cases h2
theorem Goes.full {s : List UInt8} {acc : List Lab} {rest : List UInt8} (h : Goes s acc rest) (hne : rest ≠ []) (ha : acc.length = 8) : ∀ L, okL L = true → printL L ≠ s := by
  intro L hL hs
  obtain ⟨x, r, h1, _, _⟩ := h.more hne L hL hs
  have := okL_len hL
  rw [h1] at this
  simp at this
  omega
theorem Goes.noScan {s : List UInt8} {acc : List Lab} {rest n b : List UInt8} (h : Goes s acc rest) (hne : rest ≠ []) (hc : cutE rest = some (n, b)) (hs : scan (b.drop 1) = none) : ∀ L, okL L = true → printL L ≠ s := by
  intro L hL hp
  obtain ⟨x, r, _, h2, h3⟩ := h.more hne L hL hp
  rw [hc] at h2
  injection h2 with h2
  injection h2 with _ h4
  rw [h4] at hs
  simp only [List.drop_succ_cons, List.drop_zero] at hs
  rw [hs] at h3; cases h3
theorem Goes.step {s : List UInt8} {acc : List Lab} {rest n b v q : List UInt8} (h : Goes s acc rest) (hne : rest ≠ []) (hc : cutE rest = some (n, b)) (hs : scan (b.drop 1) = some (v, q)) : Goes s (acc ++ [(n, v)]) (Lib.trimPrefix q [44]) := by
  intro L hL hp
  obtain ⟨x, r, h1, h2, h3⟩ := h.more hne L hL hp
  rw [hc] at h2
  injection h2 with h2
  injection h2 with h5 h4
  rw [h4] at hs
  simp only [List.drop_succ_cons, List.drop_zero] at hs
  rw [h3] at hs
  injection hs with hs
  injection hs with h6 h7
  refine ⟨r, ?_, by rw [← h7, trimP_tail]⟩
  rw [h1, h5, ← h6]
  simp
end Go.Proofs.YtdbifbgjbfnfmaaGreatDoor
/-
  Layer 4 (label): what the program's unquote, guess and Parse return; all that was in memory stays.
-/
namespace Go.Proofs.YtdbifbgjbfnfmaaGreatDoor
open Go.RowKit Go.Deep
attribute [local go_sem] str_size str_append str_toList str_get str_extract
set_option linter.unusedVariables false
set_option linter.unusedSimpArgs false
end Go.Proofs.YtdbifbgjbfnfmaaGreatDoor
/-
  Layer 4 (label): what the program's guess and Parse return; all that was in memory stays.
-/
namespace Go.Proofs.YtdbifbgjbfnfmaaGreatDoor
open Go.RowKit Go.Deep
attribute [local go_sem] str_size str_append str_toList str_get str_extract
set_option linter.unusedVariables false
set_option linter.unusedSimpArgs false
end Go.Proofs.YtdbifbgjbfnfmaaGreatDoor
/-
  Layer 4 (label): a row of labels of the call's own, sorted in place: the comparison; two places changed; the insertion sort.
-/
namespace Go.Proofs.YtdbifbgjbfnfmaaGreatDoor
open Go.RowKit Go.Deep
attribute [local go_sem] str_size str_append str_toList str_get str_extract
set_option linter.unusedVariables false
set_option linter.unusedSimpArgs false
theorem cmpB_lt (a b : List UInt8) : (Lib.compareBytes a b < 0) ↔ Op.bytesLess a b = true := by
  induction a generalizing b with
  | nil => cases b <;> simp [Lib.compareBytes, Op.bytesLess]
  | cons x a ih =>
    cases b with
    | nil => simp [Lib.compareBytes, Op.bytesLess]
    | cons y b =>
      simp only [Lib.compareBytes, Op.bytesLess, Bool.or_eq_true, decide_eq_true_eq, Bool.and_eq_true, beq_iff_eq]
      by_cases h : x < y
      · simp [h]
      · by_cases h2 : y < x
        · have hne : x ≠ y := fun e => by subst e; exact h h2
          simp [h, h2, hne]
        · have he : x = y := u8_eq (by rw [UInt8.lt_iff_toNat_lt] at h h2; omega)
          subst he
          simp [ih]
def labV (x : Lab) : Value := .agg #[.string (str x.1), .string (str x.2)]
/-- What the comparison answers. -/
def cmpN (x y : Lab) : Int := Lib.compareBytes x.1 y.1
theorem cmpN_lt {x y : Lab} (h : ltN x y = true) : cmpN x y < 0 := (cmpB_lt _ _).2 h
theorem cmpN_ge {x y : Lab} (h : ltN x y = false) : ¬ cmpN x y < 0 := fun hh => by have := (cmpB_lt _ _).1 hh; unfold ltN at h; rw [h] at this; cases this
theorem cmp_c (x y : Lab) (w : World) : Calls Tryz.prog 70 #[.agg #[.string (str x.1), .string (str x.2)], .agg #[.string (str y.1), .string (str y.2)]] w fun e w' => e = .returned (.int .i64 (cmpN x y)) ∧ Below w.heap.size w w' := by
  have c1 := fun W => Tryz.strings_Compare (str x.1) (str y.1) W
  rw [str_data, str_data] at c1
  have e : Lib.compareBytes x.1 y.1 = cmpN x y := rfl
  rw [e] at c1
  clear e
  go_enter Tryz.func70, Tryz.ntmps70
  go_wp2_with (go_at_call 71; refine (c1 _).mono ?_; rintro e w1 ⟨rfl, rfl⟩)
  go_ret
  exact ⟨rfl, by repeat (first | exact Below.refl _ _ | (refine Below.alloc ?_ (by simp <;> omega) _))⟩
/-- Block g begins with the labels l. -/
def RowL (g : Nat) (l : List Lab) (w : World) : Prop := ∃ cur : Array Value, w.heap[g]? = some (.cells cur 40 (0, 0)) ∧ 2 * l.length ≤ cur.size ∧ ∀ i (h : i < l.length), cur[2 * i]? = some (.string (str l[i].1)) ∧ cur[2 * i + 1]? = some (.string (str l[i].2))
theorem RowL.below {g : Nat} {l : List Lab} {w w' : World} (h : RowL g l w) (hb : Below w.heap.size w w') : RowL g l w' := by
  obtain ⟨cur, h1, h2, h3⟩ := h
  exact ⟨cur, (hb.block g (lt_of_block h1)).trans h1, h2, h3⟩
theorem RowL.drew {g : Nat} {l : List Lab} {w : World} (h : RowL g l w) : RowL g l w.drew := h
theorem RowL.get {g : Nat} {D E : List Lab} {x : Lab} {w : World} (h : RowL g (D ++ x :: E) w) (k : Nat) (hk : k = D.length) :
    w.cell? ⟨g, k * 2, none⟩ = some (.string (str x.1)) ∧ w.cell? ⟨g, k * 2 + 1, none⟩ = some (.string (str x.2)) ∧ w.frozen? ⟨g, k * 2, none⟩ = false ∧ w.frozen? ⟨g, k * 2 + 1, none⟩ = false := by
  obtain ⟨cur, h1, h2, h3⟩ := h
  subst hk
  have := h3 D.length (by simp)
  simp at this
  refine ⟨?_, ?_, blk_free h1 _, blk_free h1 _⟩
  · rw [blk_cell h1, Nat.mul_comm]; exact this.1
  · rw [blk_cell h1, Nat.mul_comm]; exact this.2
theorem RowL.put {g : Nat} {D E : List Lab} {x : Lab} {w : World} (h : RowL g (D ++ x :: E) w) (z : Lab) (k : Nat) (hk : k = D.length) :
    RowL g (D ++ z :: E) ((w.setCell ⟨g, k * 2, none⟩ (.string (str z.1))).setCell ⟨g, k * 2 + 1, none⟩ (.string (str z.2))) := by
  obtain ⟨cur, h1, h2, h3⟩ := h
  subst hk
  have e1 := blk_set h1 (D.length * 2) (.string (str z.1))
  have e2 := blk_set e1 (D.length * 2 + 1) (.string (str z.2))
  refine ⟨_, e2, by simpa using h2, fun i hi => ?_⟩
  have hi' : i < (D ++ x :: E).length := by simpa using hi
  have hh := h3 i hi'
  simp only [Array.getElem?_setIfInBounds, Array.size_setIfInBounds]
  simp at h2
  by_cases hd : i = D.length
  · subst hd
    rw [if_neg (by omega), if_pos (by omega), if_pos (by omega), if_pos (by omega), if_pos (by omega)]
    simp
  · rw [if_neg (by omega), if_neg (by omega), if_neg (by omega), if_neg (by omega)]
    have e : (D ++ z :: E)[i] = (D ++ x :: E)[i] := by
      by_cases hl : i < D.length
      · rw [List.getElem_append_left hl, List.getElem_append_left hl]
      · obtain ⟨j, rfl⟩ : ∃ j, i = D.length + (j + 1) := ⟨i - D.length - 1, by omega⟩
        rw [List.getElem_append_right (by omega), List.getElem_append_right (by omega)]
        simp
    rw [e]; exact hh
end Go.Proofs.YtdbifbgjbfnfmaaGreatDoor
