/-
  Layer 6 (post): the law PostUnion returns true.
-/
import Derived.Test.YtalhjejbaembbaaPostUnion
namespace Go.Proofs.Ytalhjejbaembbaa
open Go.RowKit Go.Deep
set_option linter.unusedVariables false
set_option linter.unusedSimpArgs false
/-- Values that are rows of integers. -/
def Lists (w : World) (vs : List Value) (L : List (List Int)) : Prop := vs.length = L.length ∧ ∀ (j : Nat) v l, vs[j]? = some v → L[j]? = some l → ∃ A c, v = .slice A l.length c ∧ Row w A c l
theorem Lists.keeps {w w' : World} {vs : List Value} {L : List (List Int)} {F : List Nat} (h : Lists w vs L) (hk : Keeps F w w') (hF : ∀ {A c l}, Row w A c l → ∀ k, (Value.slice A l.length c).ownBlock = some k → k ∉ F) : Lists w' vs L :=
  ⟨h.1, fun j v l hv hl => by
    obtain ⟨A, c, rfl, hR⟩ := h.2 j v l hv hl
    exact ⟨A, c, rfl, NewI.keeps hR hk (hF hR)⟩⟩
theorem Lists.snoc {w : World} {vs : List Value} {L : List (List Int)} {A : Option Addr} {c : Nat} {R : List Int} (h : Lists w vs L) (hR : Row w A c R) : Lists w (vs ++ [.slice A R.length c]) (L ++ [R]) := by
  refine ⟨by simp [h.1], fun j v l hv hl => ?_⟩
  have hlen := h.1
  rcases Nat.lt_or_ge j vs.length with hj | hj
  · rw [List.getElem?_append_left hj] at hv
    rw [List.getElem?_append_left (by omega)] at hl
    exact h.2 j v l hv hl
  · rw [List.getElem?_append_right hj] at hv
    rw [List.getElem?_append_right (by omega), ← hlen] at hl
    obtain ⟨k, hk⟩ : ∃ k, j - vs.length = k := ⟨_, rfl⟩
    rw [hk] at hv hl
    cases k with
    | zero => simp at hv hl; subst hv hl; exact ⟨A, c, rfl, hR⟩
    | succ k => simp at hv
/-- Two rows of rows that grow side by side. -/
def Two (B : Nat) (w : World) (A1 : Option Addr) (c1 : Nat) (A2 : Option Addr) (c2 : Nat) (L1 L2 : List (List Int)) : Prop :=
  ∃ vs1 vs2, w.ownsRow B 22 1 (.slice A1 L1.length c1) L1.length vs1 ∧ w.ownsRow B 22 1 (.slice A2 L2.length c2) L2.length vs2 ∧
    (∀ g, (Value.slice A1 L1.length c1).ownBlock = some g → (Value.slice A2 L2.length c2).ownBlock ≠ some g) ∧ Lists w vs1 L1 ∧ Lists w vs2 L2
theorem Two.symm {B : Nat} {w : World} {A1 A2 : Option Addr} {c1 c2 : Nat} {L1 L2 : List (List Int)} (h : Two B w A1 c1 A2 c2 L1 L2) : Two B w A2 c2 A1 c1 L2 L1 := by
  obtain ⟨vs1, vs2, h1, h2, h3, h4, h5⟩ := h
  exact ⟨vs2, vs1, h2, h1, fun g hg hg2 => h3 g hg2 hg, h5, h4⟩
theorem Two.below {B : Nat} {w w' : World} {A1 A2 : Option Addr} {c1 c2 : Nat} {L1 L2 : List (List Int)} (h : Two B w A1 c1 A2 c2 L1 L2) (hb : Below w.heap.size w w') : Two B w' A1 c1 A2 c2 L1 L2 := by
  obtain ⟨vs1, vs2, h1, h2, h3, h4, h5⟩ := h
  have hk : Keeps [] w w' := Keeps.below hb
  exact ⟨vs1, vs2, hk.row h1 (by simp), hk.row h2 (by simp), h3, h4.keeps hk (by simp), h5.keeps hk (by simp)⟩
theorem row_not_in {w : World} {B n : Nat} {V : Value} {vs : List Value} (h : w.ownsRow B 22 1 V n vs) {A : Option Addr} {c : Nat} {l : List Int} (hR : Row w A c l) : ∀ k, (Value.slice A l.length c).ownBlock = some k → k ∉ V.ownBlock.toList := by
  intro k hk hm
  rcases h.2 with ⟨rfl, _⟩ | ⟨g, cap, cur, rfl, _, hh, _⟩
  · simp [Value.ownBlock] at hm
  · simp [Value.ownBlock] at hm
    exact row_apart hR.own hh (by decide) k hk hm
theorem ints_info : (Try.prog.info? 22).map (fun i => (i.zero, i.size, i.bytes)) = some (some (.slice none 0 0), 1, 24) := by kernel_rfl
theorem two_app {ops : Array Oper} {rest : List Oper} {o : Oper} {a : Act} {Q : Exit → Act → World → Prop} {w w0 : World} (hgd : o.guard = none) (s x : Operand)
    (ho : o.op = .call { callee := .builtin .append, args := #[s, x], argTypes := #[29, 29] })
    {B : Nat} {A1 A2 : Option Addr} {c1 c2 : Nat} {L1 L2 : List (List Int)} (hs : a.eval s = .slice A1 L1.length c1) (hT : Two B w0 A1 c1 A2 c2 L1 L2)
    {A : Option Addr} {c : Nat} {R : List Int} (hR : Row w0 A c R) (hx : a.eval x = .slice (some ⟨w0.heap.size, 0, none⟩) 1 1) (hw : w = w0.alloc (.cells #[.slice A R.length c] 22))
    (hlen : L1.length ≤ 1000) (hB : B ≤ w0.heap.size)
    (h : ∀ A' c' w' M, Hid (M = L1 ++ [R]) → Two B w' A' c' A2 c2 M L2 → Below B w0 w' → wpList Try.prog ops Q rest (a.put o.dst (.slice A' M.length c')) w') :
    wpList Try.prog ops Q (o :: rest) a w := by
  obtain ⟨i0, hi0, hz0, hz1, hz2⟩ := info_parts ints_info
  subst hw
  obtain ⟨vs1, vs2, h1, h2, h3, h4, h5⟩ := hT
  refine wpList_append_own_at _ hgd s x 29 ho B 22 i0 (.slice none 0 0) 1 24 Try.underlying29 hi0 hz0 hz1 hz2 rfl (by decide) (.slice A1 L1.length c1) L1.length _ hs (h1.alloc _) ⟨w0.heap.size, 0, none⟩ 1 1 [.slice A R.length c] hx rfl (cell_one_new _ _ _) ?_ (by unfold maxLen; omega) (by omega) (by simp; omega) ?_
  · intro u hu; simp at hu; subst hu; rfl
  · intro v' w' hown hg _ hat
    obtain ⟨A', cap, rfl⟩ := row_slice hown
    have hK : Keeps ((Value.slice A1 L1.length c1).ownBlock).toList w0 w' := ((Keeps.refl _ w0).alloc (.cells #[.slice A R.length c] 22)).grown hg (fun k hk => .inl (by simp [hk]))
    have e : (L1 ++ [R]).length = L1.length + 1 := by simp
    rw [← e] at hown hat ⊢
    refine h A' cap w' (L1 ++ [R]) rfl ⟨_, vs2, hown, hK.row h2 (fun k hk hm => h3 k (by simpa using hm) hk), ?_, (h4.keeps hK (row_not_in h1)).snoc (NewI.keeps hR hK (row_not_in h1 hR)), h5.keeps hK (row_not_in h1)⟩ ?_
    · intro g hg3 hg2
      rcases hat with e | e
      · rw [e] at hg3; exact h3 g hg3 hg2
      · rw [e] at hg3; injection hg3 with hg3
        have := (h2.lt g hg2).2
        first | omega | (simp at hg3; omega)
    · exact (((Below.refl B w0).alloc hB _).grown hg (by simp; omega) (fun k hk => (h1.lt k hk).1))
theorem Two.at {B : Nat} {w : World} {A1 A2 : Option Addr} {c1 c2 : Nat} {L1 L2 : List (List Int)} (h : Two B w A1 c1 A2 c2 L1 L2) (hl : ∀ l ∈ L1, l.length ≤ 200) : LsAt w A1 L1.length c1 L1 := by
  obtain ⟨vs1, vs2, h1, _, _, h4, _⟩ := h
  rcases h1.2 with ⟨e, h0⟩ | ⟨g, cap, cur, e, hg, hb, hc, _⟩
  · have : L1 = [] := List.length_eq_zero_iff.1 h0
    subst this
    exact ⟨rfl, Nat.zero_le _, fun i hi => by simp at hi⟩
  · injection e with e1 e2 e3
    subst e1 e3
    refine ⟨rfl, hc, fun i hi => ?_⟩
    have hv : i < vs1.length := by rw [h4.1]; exact hi
    obtain ⟨A, c, ev, hR⟩ := h4.2 i vs1[i] L1[i] (List.getElem?_eq_getElem hv) (List.getElem?_eq_getElem hi)
    have hcell := h1.cells (g := g) rfl i vs1[i] (List.getElem?_eq_getElem hv)
    rw [ev] at hcell
    refine ⟨_, A, c, rfl, ?_, hcell, Row.at hR, ?_⟩
    · have : ((⟨g, 0, none⟩ : Addr).add i).block = g := by unfold Addr.add; split <;> rfl
      rw [this]; exact lt_of_block hb
    · have := hl _ (List.getElem_mem hi); unfold maxLen; omega
theorem map_take {α β : Type} (f : α → β) (l : List α) (i : Nat) (h : i < l.length) : (l.take (i + 1)).map f = (l.take i).map f ++ [f l[i]] := by
  rw [List.take_succ_eq_append_getElem h, List.map_append]; rfl
theorem allLen_ris (L : List (List Int)) : allLen (L.map risL) ≤ 200 * L.length := by
  induction L with
  | nil => simp [allLen]
  | cons l L ih =>
    have := len_risL l
    simp only [allLen, List.map_cons, List.sum_cons, List.length_cons] at ih ⊢
    omega
theorem union_same {L M : List (List Int)} {u v : List Int} (hu : IsUnion L u) (hv : IsUnion M v) (h : ∀ l, l ∈ L ↔ l ∈ M) : u = v :=
  up_ext hu.1 hv.1 fun x => by
    rw [hu.2.1, hv.2.1]
    exact ⟨fun ⟨l, hl, hx⟩ => ⟨l, (h l).1 hl, hx⟩, fun ⟨l, hl, hx⟩ => ⟨l, (h l).2 hl, hx⟩⟩
set_option maxRecDepth 100000 in
set_option maxHeartbeats 1000000 in
theorem law_PostUnion (a0 : Option Addr) (len0 cap0 : Nat) (z0 : List (List Int)) (w : World) (hl0 : len0 ≤ maxLen) (w0 : LsAt w a0 len0 cap0 z0) :
    Calls Try.prog 6 #[.slice a0 len0 cap0] w fun e w' => e = .returned (.bool true) ∧ Below w.heap.size w w' := by
  unfold maxLen at hl0
  by_cases h0 : 20 < (len0 : Int)
  · go_enter Try.func6, Try.ntmps6
    go_wp2
    go_ret
    exact ⟨rfl, Below.refl _ _⟩
  have t0 : decide (20 < (len0 : Int)) = false := by simpa using h0
  have hle := w0.1
  subst hle
  have hl20 : z0.length ≤ 20 := by omega
  clear h0 hl0
  go_enter Try.func6, Try.ntmps6
  go_wp2_with fail
  go_loopw [3, 4, 5] (fun a b c wr => ∃ (i : Nat) (L1 L2 : List (List Int)) (A1 A2 : Option Addr) (c1 c2 : Nat), i ≤ z0.length ∧ c = .int .i64 i ∧ a = .slice A1 L1.length c1 ∧ b = .slice A2 L2.length c2 ∧ Hid (Two w.heap.size wr A1 c1 A2 c2 L1 L2) ∧ Hid (L1 = (z0.take i).map risL ∧ L2 = (z0.reverse.take i).map risL) ∧ Below w.heap.size w wr) (fun _ _ c _ => z0.length - (intOf c).toNat)
  case atStart =>
    refine ⟨0, [], [], _, _, _, _, Nat.zero_le _, rfl, rfl, rfl, ?_, ⟨rfl, rfl⟩, ((Below.refl _ w).alloc (Nat.le_refl _) _).alloc (by simp) _⟩
    refine ⟨[], [], (World.ownsRow_made w #[] 0 (Nat.le_refl _) (by unfold maxLen; omega) rfl).alloc _, ?_, ?_, ⟨rfl, fun j v l h => by simp at h⟩, ⟨rfl, fun j v l h => by simp at h⟩⟩
    · have h := (World.ownsRow_made (e := 22) (size := 1) (w.alloc (.cells #[] 22)) #[] 0 (Nat.le_refl _) (by unfold maxLen; omega) rfl).mono (base' := w.heap.size) (by simp)
      simpa using h
    · intro g hg
      simp [Value.ownBlock] at hg ⊢
      omega
  case round =>
    obtain ⟨i, L1, L2, A1, A2, c1, c2, hi, rfl, rfl, rfl, HT, HL, hb⟩ := hrel
    have hbs := hb.size
    by_cases hlt : i < z0.length
    · obtain ⟨ad, Ai, ci, rfl, h2, h3, h4, h5⟩ := w0.2.2 i hlt
      obtain ⟨m, hm⟩ : ∃ m, z0.length - 1 - i = m := ⟨_, rfl⟩
      have hm2 : m < z0.length := by omega
      obtain ⟨ad', Am, cm, e, k2, k3, k4, k5⟩ := w0.2.2 m hm2
      injection e with e
      subst e
      have hrev : z0.reverse[i]'(by simpa using hlt) = z0[m]'hm2 := by
        rw [List.getElem_reverse]; congr 1
      have s1 := map_take risL z0 i hlt
      have s2 := map_take risL z0.reverse i (by simpa using hlt)
      rw [hrev] at s2
      rw [← HL.out.1] at s1
      rw [← HL.out.2] at s2
      have n1 : L1.length ≤ 1000 := by rw [HL.out.1, List.length_map, List.length_take]; omega
      have n2 : L2.length ≤ 1000 := by rw [HL.out.2, List.length_map, List.length_take]; omega
      obtain ⟨x, hx⟩ : ∃ x, z0[i]'hlt = x := ⟨_, rfl⟩
      obtain ⟨y, hy⟩ : ∃ y, z0[m]'hm2 = y := ⟨_, rfl⟩
      rw [hx] at h3 h4 h5 s1
      rw [hy] at k3 k4 k5 s2
      obtain ⟨R, hR⟩ : ∃ R, risL x = R := ⟨_, rfl⟩
      obtain ⟨S, hS⟩ : ∃ R, risL y = R := ⟨_, rfl⟩
      unfold maxLen at h5 k5
      have cR := Lib.hid (fun W (h : Below w.heap.size w W) => rising_u hR (by omega) (h4.below h))
      have cS := Lib.hid (fun W (h : Below w.heap.size w W) => rising_u hS (by omega) (k4.below h))
      rw [hR] at s1
      rw [hS] at s2
      have HC := Lib.hid (fun (W : World) (hW : Below w.heap.size w W) => (And.intro ((hW.cell (p := ad.add i) h2).trans h3) ((hW.cell (p := ad.add m) k2).trans k3)))
      have HS := Lib.hid (And.intro s1 s2)
      have g3 := (HC.out _ hb).1
      obtain ⟨p, hp⟩ : ∃ p, z0.length - 1 = p := ⟨_, rfl⟩
      have e1 : IntKind.i64.wrap ((z0.length : Int) - 1) = (p : Int) := by rw [show (z0.length : Int) - 1 = p by omega]; exact IntWalk.i64_in _ (by omega)
      have e2 : IntKind.i64.wrap ((p : Int) - (i : Int)) = (m : Int) := by rw [show (p : Int) - (i : Int) = m by omega]; exact IntWalk.i64_in _ (by omega)
      clear hR hS s1 s2 h3 k3 h4 k4 h5 k5 hrev hx hy hm hp
      go_wp2_with fail
      refine (cR.out _ hb).mono ?_
      rintro e w1 ⟨⟨B1, d1, rfl, hR1⟩, hb1⟩
      have HT := Lib.hid (HT.out.below hb1)
      have HR := Lib.hid hR1
      have hb1 := below2 hb hb1 hbs
      have hb1s := hb1.size
      clear hR1 g3
      go_wp2_with (at_builtin; refine two_app rfl (.tmp 18) (.tmp 24) rfl rfl HT.out HR.out rfl rfl n1 hb1s ?c1)
      case c1 =>
        intro A3 c3 w2 M1 HM1 hT2 hb2
        have HT2 := Lib.hid hT2
        have hb2 := hb1.trans hb2
        have hb2s := hb2.size
        have g4 := (HC.out _ hb2).2
        clear hT2
        go_wp2_with fail
        refine (cS.out _ hb2).mono ?_
        rintro e w3 ⟨⟨B2, d2, rfl, hR2⟩, hb3⟩
        have HT3 := Lib.hid (HT2.out.below hb3).symm
        have HR2 := Lib.hid hR2
        have hb3 := below2 hb2 hb3 hb2s
        have hb3s := hb3.size
        clear hR2 g4 HT2 HT HR
        go_wp2_with (at_builtin; refine two_app rfl (.tmp 26) (.tmp 36) rfl rfl HT3.out HR2.out rfl rfl n2 hb3s ?c2)
        case c2 =>
          intro A4 c4 w4 M2 HM2 hT4 hb4
          have HT4 := Lib.hid hT4.symm
          have hb4 := hb3.trans hb4
          clear hT4 HT3 HR2
          go_wp2_with fail
          go_roundw
          case rel => exact ⟨i + 1, M1, M2, A3, A4, c3, c4, by omega, by go_num, rfl, rfl, HT4.out, ⟨by rw [HM1.out, HS.out.1], by rw [HM2.out, HS.out.2]⟩, hb4⟩
          case measure => simp [intOf]; omega
    · obtain rfl : i = z0.length := by omega
      have e1 : L1 = z0.map risL := by rw [HL.out.1, List.take_length]
      have e2 : L2 = z0.reverse.map risL := by rw [HL.out.2, List.take_of_length_le (by simp)]
      have q1 : ∀ l ∈ L1, l.length ≤ 200 := by rw [e1]; intro l h; obtain ⟨y, _, rfl⟩ := List.mem_map.1 h; exact len_risL y
      have q2 : ∀ l ∈ L2, l.length ≤ 200 := by rw [e2]; intro l h; obtain ⟨y, _, rfl⟩ := List.mem_map.1 h; exact len_risL y
      have u1 : ∀ l ∈ L1, Up l := by rw [e1]; intro l h; obtain ⟨y, _, rfl⟩ := List.mem_map.1 h; exact up_risL y
      have u2 : ∀ l ∈ L2, Up l := by rw [e2]; intro l h; obtain ⟨y, _, rfl⟩ := List.mem_map.1 h; exact up_risL y
      have n1 : L1.length ≤ 1000 := by rw [e1, List.length_map]; omega
      have n2 : L2.length ≤ 1000 := by rw [e2, List.length_map, List.length_reverse]; omega
      have a1 : allLen L1 ≤ 10000 := by rw [e1]; have := allLen_ris z0; omega
      have a2 : allLen L2 ≤ 10000 := by rw [e2]; have := allLen_ris z0.reverse; rw [List.length_reverse] at this; omega
      have hm : ∀ l, l ∈ L1 ↔ l ∈ L2 := by rw [e1, e2]; intro l; simp
      have C1 := Lib.hid (fun W (h : Below wr.heap.size wr W) => union_c _ L1 A1 L1.length c1 W rfl n1 ((HT.out.below h).at q1) u1 a1)
      have C2 := Lib.hid (fun W (h : Below wr.heap.size wr W) => union_c _ L2 A2 L2.length c2 W rfl n2 ((HT.out.below h).symm.at q2) u2 a2)
      have C3 := Lib.hid (fun W (h : Below wr.heap.size wr W) => refUnion_c L1 A1 L1.length c1 W n1 ((HT.out.below h).at q1) u1 a1)
      have HM := Lib.hid hm
      have HA := Lib.hid (And.intro a1 a2)
      clear e1 e2 q1 q2 u1 u2 n1 n2 a1 a2 hm HT HL
      go_wp2_with fail
      refine (C1.out _ (Below.refl _ _)).mono ?_
      rintro e v1 ⟨⟨u, B1, d1, rfl, hR, hU⟩, hk⟩
      have HU := Lib.hid hU
      have RU := Lib.hid hR
      have hb1 := hk
      clear hU hR hk
      go_wp2_with fail
      refine (C3.out _ hb1).mono ?_
      rintro e v2 ⟨⟨u', B2, d2, rfl, hR, hU⟩, hk⟩
      obtain rfl : u = u' := union_same HU.out hU fun l => Iff.rfl
      have RU := Lib.hid (RU.out.below hk)
      have RV := Lib.hid hR
      have hb2 := below2 hb1 hk hb1.size
      clear hU hR hk hb1
      go_wp2_with fail
      refine (same_u (decide_eq_true rfl) (by have := HU.out.2.2; have := HA.out; omega) (by have := HU.out.2.2; have := HA.out; omega) RU.out RV.out).mono ?_
      rintro e v3 ⟨rfl, hk⟩
      have RU := Lib.hid (RU.out.below hk)
      have hb3 := below2 hb2 hk hb2.size
      clear hk hb2 RV
      go_wp2_with fail
      refine (C2.out _ hb3).mono ?_
      rintro e v4 ⟨⟨u', B3, d3, rfl, hR, hU⟩, hk⟩
      obtain rfl : u = u' := union_same HU.out hU HM.out
      have RU := Lib.hid (RU.out.below hk)
      have RV := Lib.hid hR
      have hb4 := below2 hb3 hk hb3.size
      clear hU hR hk hb3
      go_wp2_with fail
      refine (same_u (decide_eq_true rfl) (by have := HU.out.2.2; have := HA.out; omega) (by have := HU.out.2.2; have := HA.out; omega) RU.out RV.out).mono ?_
      rintro e v5 ⟨rfl, hk⟩
      have RU := Lib.hid (RU.out.below hk)
      have hb5 := below2 hb4 hk hb4.size
      clear hk hb4 RV
      go_wp2_with fail
      refine (rises_u (decide_eq_true HU.out.1) (by have := HU.out.2.2; have := HA.out; omega) RU.out).mono ?_
      rintro e v6 ⟨rfl, hk⟩
      have hb6 := below2 hb5 hk hb5.size
      go_wp2_with fail
      go_ret
      exact ⟨rfl, below2 hb hb6 hb.size⟩
end Go.Proofs.Ytalhjejbaembbaa
