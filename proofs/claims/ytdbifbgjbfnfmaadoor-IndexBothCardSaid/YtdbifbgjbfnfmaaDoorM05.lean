/-
  Texts of the same seat, one behind the other (merged; each says at its head what it is).
-/
import Derived.Test.YtdbifbgjbfnfmaaDoorM04
import Derived.Test.YtdbifbgjbfnfmaaDoorM01
import Derived.Laws.ResultCell
import Derived.Deep.RegionHeld3
/-
  Layer 7 (index): the document's Labels and Encode.
-/
namespace Go.Proofs.YtdbifbgjbfnfmaaDoor
open Go.RowKit Go.Deep
attribute [local go_sem] str_size str_append str_toList str_get str_extract
set_option linter.unusedVariables false
set_option linter.unusedSimpArgs false
/-- What a call that gives labels answers. -/
def GivesL (L : List Lab) (e : Ending) (w' : World) : Prop := ∃ A1 c1, e = .returned (.slice A1 L.length c1) ∧ LAt w' A1 L.length L
def labelsX (X : Ix) (id : Int) : List Lab := if 0 ≤ id then (X[id.toNat]?).getD [] else []
theorem labelsX_in {X : Ix} {i : Nat} (h : i < X.length) : labelsX X (i : Int) = X[i] := by
  unfold labelsX; rw [if_pos (by omega)]; simp [h]
theorem labelsX_out {X : Ix} {id : Int} (h : id < 0 ∨ (X.length : Int) ≤ id) : labelsX X id = [] := by
  unfold labelsX
  split
  · rw [List.getElem?_eq_none (by omega)]; rfl
  · rfl
theorem labelsX_mem {X : Ix} (h : Good X) (id : Int) : okL (labelsX X id) = true ∨ labelsX X id = [] := by
  by_cases hid : id < 0 ∨ (X.length : Int) ≤ id
  · exact .inr (labelsX_out hid)
  · obtain ⟨i, rfl⟩ : ∃ i : Nat, id = i := ⟨id.toNat, by omega⟩
    rw [labelsX_in (by omega)]
    exact .inl (h.ok _ (List.getElem_mem _))
/-- step_labs, where the operation stands alone. -/
theorem app_labs7 {w : World} {ops : Array Oper} {rest : List Oper} {o : Oper} {a : Act} {Q : Exit → Act → World → Prop} (hgd : o.guard = none) (s x : Operand)
    (ho : o.op = .call { callee := .builtin .append, args := #[s, x], argTypes := #[23, 23] })
    (base : Nat) (g n cap0 : Nat) (l : List Lab) (hs : a.eval s = .slice (some ⟨g, 0, none⟩) n cap0) (hown : w.ownsRow base 60 2 (.slice (some ⟨g, 0, none⟩) n cap0) n (labC l))
    (A : Option Addr) (m c : Nat) (L : List Lab) (hx : a.eval x = .slice A m c) (hA : LAt w A m L) (h63 : n + m ≤ 10000) (hbase : base ≤ w.heap.size)
    (h : ∀ A' cap' w', w'.ownsRow base 60 2 (.slice A' (n + m) cap') (n + m) (labC (l ++ L)) → w.grownBy w' (some g) → (Value.ownBlock (.slice A' (n + m) cap') = some g ∨ Value.ownBlock (.slice A' (n + m) cap') = some w.heap.size) → wpList Tryd.prog ops Q rest (a.put o.dst (.slice A' (n + m) cap')) w') :
    wpList Tryd.prog ops Q (o :: rest) a w := by
  refine wpList_plain hgd fun K hK => ?_
  have := step_labs (w := w) (ops := ops) (o := o) (a := a) (K := K) (Q := Q) (E := True) hgd s x ho base g n cap0 l hs hown A m c L hx hA h63 hbase (fun A' cap' w' h1 h2 h3 => hK _ _ (h A' cap' w' h1 h2 h3))
  rwa [if_pos (show Region.wanted o (yielded ops a.tmps) = true by simp [Region.wanted, hgd])] at this
set_option maxHeartbeats 1000000 in
theorem refLabels_c (F : List Nat) (p : Nat) (X : Ix) (id : Int) (w : World) (h : RefX F p X w) (h1 : -9223372036854775808 ≤ id) (h2 : id ≤ 9223372036854775807) :
    Calls Tryd.prog 15 #[.pointer (some ⟨p, 0, none⟩), .int .i64 id] w fun e w' => GivesL (labelsX X id) e w' ∧ Below w.heap.size w w' := by
  obtain ⟨B, c, k1, k2⟩ := h.at
  have hc := blk_cell k1 0
  simp only [List.getElem?_toArray, List.getElem?_cons_zero] at hc
  have hX := h.good.few
  have hok := Lib.hid h.good.ok
  have hpl := lt_of_block k1
  by_cases hid : id < 0
  · have e : labelsX X id = [] := labelsX_out (.inl hid)
    obtain ⟨L, hL⟩ : ∃ L, labelsX X id = L := ⟨_, rfl⟩
    rw [hL] at e ⊢
    have HE := Lib.hid e
    clear e hL
    have t1 : decide (id < 0) = true := by simpa using hid
    clear k1 k2 h
    go_enter Tryd.func15, Tryd.ntmps15
    go_wp2_with fail
    go_ret
    exact ⟨⟨none, 0, by rw [HE.out]; rfl, by rw [HE.out]; exact LAt.nil _ _⟩, Below.refl _ _⟩
  · have t1 : decide (id < 0) = false := by simpa using hid
    by_cases hid2 : (X.length : Int) ≤ id
    · have e : labelsX X id = [] := labelsX_out (.inr hid2)
      obtain ⟨L, hL⟩ : ∃ L, labelsX X id = L := ⟨_, rfl⟩
      rw [hL] at e ⊢
      have HE := Lib.hid e
      clear e hL
      have t2 : decide ((X.length : Int) ≤ id) = true := by simpa using hid2
      clear k1 k2 h
      go_enter Tryd.func15, Tryd.ntmps15
      go_wp2_with fail
      go_ret
      exact ⟨⟨none, 0, by rw [HE.out]; rfl, by rw [HE.out]; exact LAt.nil _ _⟩, Below.refl _ _⟩
    · obtain ⟨i, rfl⟩ : ∃ i : Nat, id = i := ⟨id.toNat, by omega⟩
      have hi : i < X.length := by omega
      have t2 : decide ((X.length : Int) ≤ (i : Int)) = false := by simpa using hid2
      rw [labelsX_in hi]
      obtain ⟨ad, Ai, ci, rfl, q2, q3, q4, q5⟩ := k2.2.2 i hi
      have hs := (labs_small (hok.out _ (List.getElem_mem hi)))
      have h32 := okL_32 (hok.out _ (List.getElem_mem hi))
      obtain ⟨l, hl⟩ : ∃ l, X[i]'hi = l := ⟨_, rfl⟩
      rw [hl] at q3 q4 hs h32 ⊢
      have HA := Lib.hid (q4.below ((Below.refl _ w).alloc (Nat.le_refl _) (.cells #[] 60)))
      have HM := Lib.hid (made_labs w)
      have h8 := hs.1
      have HR := Lib.hid (And.intro hs.2 h32)
      clear k1 k2 h q4 q5 hl hid hid2 hs h32
      go_enter Tryd.func15, Tryd.ntmps15
      go_wp2_with (at_builtin; refine app_labs7 rfl (.tmp 18) (.tmp 25) rfl 0 w.heap.size 0 0 [] rfl HM.out Ai l.length ci l rfl HA.out (by omega) (Nat.zero_le _) ?c1)
      case c1 =>
        intro A1 c1 w3 i1 i2 i3
        try rw [Nat.zero_add, List.nil_append] at i1
        try rw [Nat.zero_add]
        have hb3 : Below w.heap.size w w3 := below_inner (o := .cells #[] 60) i2 rfl
        have HI := Lib.hid (own_lat (v := .slice A1 l.length c1) i1 rfl HR.out.1)
        clear i1 i2 i3
        go_wp2_with fail
        go_ret
        exact ⟨⟨A1, c1, rfl, HI.out⟩, hb3⟩
set_option maxHeartbeats 1000000 in
theorem refEncode_c (F : List Nat) (p : Nat) (X : Ix) (w : World) (h : RefX F p X w) :
    Calls Tryd.prog 27 #[.pointer (some ⟨p, 0, none⟩)] w fun e w' => e = .returned (.string (str (encX X))) ∧ Below w.heap.size w w' := by
  obtain ⟨B, c, h1, h2⟩ := h.at
  have hc := blk_cell h1 0
  simp only [List.getElem?_toArray, List.getElem?_cons_zero] at hc
  have hX := h.good.few
  have hok := Lib.hid h.good.ok
  have HC := Lib.hid (fun (W : World) (hW : Below w.heap.size w W) => (hW.cell (p := ⟨p, 0, none⟩) (lt_of_block h1)).trans hc)
  have CU := Lib.hid (fun W => refUint_c X.length W (by omega))
  have CP := Lib.hid (fun A l cap W (hA : LAt W A l.length l) (ho : okL l = true) => refPrint_c A l.length cap l W (by have := (labs_small ho).1; omega) hA (fun x hx => by have := okL_32 ho x hx; omega))
  obtain ⟨U, hU⟩ : ∃ U, uv X.length = U := ⟨_, rfl⟩
  have hUl : U.length ≤ 10 := by rw [← hU]; exact uv_len10 (by omega)
  rw [hU] at CU
  have HU := Lib.hid hU
  clear h1 hc h hU
  go_enter Tryd.func27, Tryd.ntmps27
  have hc := HC.out _ (Below.refl _ _)
  go_wp2_with fail
  refine (CU.out _).mono ?_
  rintro e w1 ⟨rfl, hb1⟩
  go_wp2_with fail
  go_loopw [3, 4] (fun v c wr => ∃ (i : Nat) (s : Txt), i ≤ X.length ∧ c = .int .i64 i ∧ v = .string (str s) ∧ Hid (s = U ++ encB (X.take i)) ∧ s.length ≤ 150000 ∧ Below w.heap.size w wr) (fun _ c _ => X.length - (intOf c).toNat)
  case atStart => exact ⟨0, U, Nat.zero_le _, rfl, rfl, by show _ = _; simp [encB], by omega, hb1⟩
  case round =>
    clear hc
    obtain ⟨i, s, hi, rfl, rfl, HS, hsl, hb⟩ := hrel
    have hbs := hb.size
    have hc := HC.out _ hb
    by_cases hlt : i < X.length
    · obtain ⟨ad, Ai, ci, rfl, k2, k3, k4, k5⟩ := h2.2.2 i hlt
      have k3 := (hb.cell (p := ad.add i) k2).trans k3
      have ho := hok.out _ (List.getElem_mem hlt)
      have hst := encB_take X i hlt
      have hel := encB_len (X := X.take (i + 1)) (fun l hl => hok.out l (List.mem_of_mem_take hl))
      rw [List.length_take] at hel
      obtain ⟨l, hl⟩ : ∃ l, X[i]'hlt = l := ⟨_, rfl⟩
      rw [hl] at k3 k4 hst ho
      have cp := CP.out Ai l ci wr (k4.below hb) ho
      rw [if_pos ho] at cp
      obtain ⟨t, ht⟩ : ∃ t, printL l = t := ⟨_, rfl⟩
      have htl : t.length ≤ 700 := by rw [← ht]; exact printL_len ho
      rw [ht] at cp hst
      have CT := Lib.hid (fun W => refText_c t W (by omega))
      obtain ⟨T, hT⟩ : ∃ T, tx t = T := ⟨_, rfl⟩
      have hTl : T.length ≤ 710 := by rw [← hT]; have := tx_len t (by omega); omega
      rw [hT] at CT hst
      have HE : Hid (s ++ T = U ++ encB (X.take (i + 1))) := by show _ = _; rw [hst, HS.out, List.append_assoc]
      have hnl : s.length + T.length ≤ 150000 := by
        have := congrArg List.length HE.out
        rw [List.length_append, List.length_append] at this
        omega
      have CPh := Lib.hid cp
      clear cp hst hel hl ht hT k4 k5 ho htl
      go_wp2_with (first | (go_at_call 49; refine CPh.out.mono ?_; rintro e w2 ⟨rfl, hb2⟩; have hb3 := below2 hb hb2 hbs; dsimp only) | (go_at_call 50; refine (CT.out _).mono ?_; rintro e w3 ⟨rfl, hb4⟩; have hb5 := below2 hb3 hb4 hb3.size; dsimp only))
      go_roundw
      case rel => exact ⟨i + 1, s ++ T, by omega, by go_num, by first | rfl | (rw [str_append]), HE.out, by rw [List.length_append]; exact hnl, hb5⟩
      case measure => simp [intOf]; omega
    · obtain rfl : i = X.length := by omega
      have e := HS.out
      rw [List.take_length] at e
      have HE : Hid (s = encX X) := by show _ = _; rw [e, ← HU.out]; rfl
      clear e
      go_wp2_with fail
      go_ret
      exact ⟨by rw [HE.out]; rfl, hb⟩
end Go.Proofs.YtdbifbgjbfnfmaaDoor
/-
  Layer 5 (match): matchers, plain; a matcher and a row of strings in memory.
-/
namespace Go.Proofs.YtdbifbgjbfnfmaaDoor
open Go.RowKit Go.Deep
attribute [local go_sem] str_size str_append str_toList str_get str_extract
set_option linter.unusedVariables false
set_option linter.unusedSimpArgs false
/-- A matcher: its kind, name, value, set. -/
abbrev Mat := Int × List UInt8 × List UInt8 × List (List UInt8)
def oneL (m : Mat) (l : List Lab) : Bool :=
  if m.1 = 0 then getL l m.2.1 == m.2.2.1
  else if m.1 = 1 then getL l m.2.1 != m.2.2.1
  else if m.1 = 2 then Lib.hasPrefix (getL l m.2.1) m.2.2.1
  else if m.1 = 3 then m.2.2.2.any (fun x => x == getL l m.2.1)
  else false
/-- A row of strings that was there. -/
def StrsAt (w : World) (A : Option Addr) (len : Nat) (l : List (List UInt8)) : Prop :=
  len = l.length ∧ ∀ i (h : i < l.length), l[i].length ≤ 9223372036854775807 ∧
    ∃ ad, A = some ad ∧ (ad.add i).block < w.heap.size ∧ w.cell? (ad.add i) = some (.string (str l[i]))
theorem StrsAt.below {w w' : World} {A : Option Addr} {len : Nat} {l : List (List UInt8)} (h : StrsAt w A len l) (hb : Below w.heap.size w w') : StrsAt w' A len l :=
  ⟨h.1, fun i hi => by
    obtain ⟨h1, ad, rfl, h2, h3⟩ := h.2 i hi
    exact ⟨h1, ad, rfl, Nat.lt_of_lt_of_le h2 hb.size, (hb.cell (p := ad.add i) h2).trans h3⟩⟩
theorem StrsAt.nil (w : World) (A : Option Addr) : StrsAt w A 0 [] := ⟨rfl, fun i h => by simp at h⟩
/-- A slice of matchers that was there. -/
def MsAt (w : World) (A : Option Addr) (len : Nat) (l : List Mat) : Prop :=
  len = l.length ∧ ∀ i (h : i < l.length), (l[i].2.1.length ≤ 9223372036854775807 ∧ l[i].2.2.1.length ≤ 9223372036854775807 ∧ l[i].2.2.2.length ≤ 9223372036854775807 ∧ -9223372036854775808 ≤ l[i].1 ∧ l[i].1 ≤ 9223372036854775807) ∧
    ∃ ad, A = some ad ∧ (ad.add (i * 4)).block < w.heap.size ∧ w.cell? (ad.add (i * 4)) = some (.int .i64 l[i].1) ∧ w.cell? ⟨(ad.add (i * 4)).block, (ad.add (i * 4)).off + 1, none⟩ = some (.string (str l[i].2.1)) ∧
      w.cell? ⟨(ad.add (i * 4)).block, (ad.add (i * 4)).off + 2, none⟩ = some (.string (str l[i].2.2.1)) ∧ ∃ S cap, w.cell? ⟨(ad.add (i * 4)).block, (ad.add (i * 4)).off + 3, none⟩ = some (.slice S l[i].2.2.2.length cap) ∧ StrsAt w S l[i].2.2.2.length l[i].2.2.2
theorem MsAt.below {w w' : World} {A : Option Addr} {len : Nat} {l : List Mat} (h : MsAt w A len l) (hb : Below w.heap.size w w') : MsAt w' A len l :=
  ⟨h.1, fun i hi => by
    obtain ⟨h1, ad, rfl, h2, h3, h4, h5, S, cap, h6, h7⟩ := h.2 i hi
    exact ⟨h1, ad, rfl, Nat.lt_of_lt_of_le h2 hb.size, (hb.cell (p := ad.add (i * 4)) h2).trans h3, (hb.cell (p := ⟨(ad.add (i * 4)).block, (ad.add (i * 4)).off + 1, none⟩) h2).trans h4,
      (hb.cell (p := ⟨(ad.add (i * 4)).block, (ad.add (i * 4)).off + 2, none⟩) h2).trans h5, S, cap, (hb.cell (p := ⟨(ad.add (i * 4)).block, (ad.add (i * 4)).off + 3, none⟩) h2).trans h6, h7.below hb⟩⟩
theorem MsAt.nil (w : World) (A : Option Addr) : MsAt w A 0 [] := ⟨rfl, fun i h => by simp at h⟩
theorem any_take {α : Type} (p : α → Bool) (l : List α) (i : Nat) (h : i < l.length) : (l.take (i + 1)).any p = ((l.take i).any p || p l[i]) := by
  rw [List.take_succ_eq_append_getElem h, List.any_append]; simp
theorem drop_any {α : Type} (p : α → Bool) (l : List α) (i : Nat) (h : i < l.length) : (l.drop i).any p = (p l[i] || (l.drop (i + 1)).any p) := by
  rw [List.drop_eq_getElem_cons h, List.any_cons]
set_option maxHeartbeats 400000 in
theorem strIndex_c (A : Option Addr) (len cap : Nat) (l : List (List UInt8)) (x : List UInt8) (w : World) (hl : len ≤ 9223372036854775807) (hA : StrsAt w A len l) :
    Calls Tryd.prog 109 #[.slice A len cap, .string (str x)] w fun e w' => (∃ k : Int, e = .returned (.int .i64 k) ∧ decide (k ≥ 0) = l.any (fun y => y == x)) ∧ w = w' := by
  have hle := hA.1
  subst hle
  obtain ⟨R, hR⟩ : ∃ R, l.any (fun y => y == x) = R := ⟨_, rfl⟩
  rw [hR]
  have HR := Lib.hid hR
  clear hR
  go_enter Tryd.func109, Tryd.ntmps109
  go_wp2_with fail
  go_loopw [8] (fun c wr => ∃ i : Nat, i ≤ l.length ∧ c = .int .i64 i ∧ Hid ((l.drop i).any (fun y => y == x) = R) ∧ w = wr) (fun c _ => l.length - (intOf c).toNat)
  case atStart => exact ⟨0, Nat.zero_le _, rfl, HR.out, rfl⟩
  case round =>
    obtain ⟨i, hi, rfl, HI, rfl⟩ := hrel
    by_cases hlt : i < l.length
    · obtain ⟨h1, ad, rfl, h2, h3⟩ := hA.2 i hlt
      have hst := drop_any (fun y => y == x) l i hlt
      rw [HI.out] at hst
      have HS := Lib.hid hst
      by_cases hq : l[i] = x
      · have t1 : (x == l[i]) = true := by rw [hq]; simp
        have e : R = true := by rw [hst, hq]; simp
        subst e
        clear hst hq
        go_wp2_with fail
        go_ret
        exact ⟨⟨_, rfl, by simp⟩, rfl⟩
      · have t1 : (x == l[i]) = false := by rw [beq_eq_false_iff_ne]; exact fun h => hq h.symm
        have e : (l[i] == x) = false := by rw [beq_eq_false_iff_ne]; exact hq
        have e2 : (l.drop (i + 1)).any (fun y => y == x) = R := by rw [hst, e]; rfl
        have HE := Lib.hid e2
        clear hst hq e e2
        go_wp2_with fail
        go_roundw
        case rel => exact ⟨i + 1, by omega, by go_num, HE.out, by first | rfl | trivial⟩
        case measure => simp [intOf]; omega
    · obtain rfl : i = l.length := by omega
      have e := HI.out
      rw [List.drop_length] at e
      have e2 : R = false := e.symm
      subst e2
      clear e
      go_wp2_with fail
      go_ret
      exact ⟨⟨_, rfl, by decide⟩, rfl⟩
theorem contains_c (A : Option Addr) (len cap : Nat) (l : List (List UInt8)) (x : List UInt8) (w : World) (hl : len ≤ 9223372036854775807) (hA : StrsAt w A len l) :
    Calls Tryd.prog 87 #[.slice A len cap, .string (str x)] w fun e w' => e = .returned (.bool (l.any (fun y => y == x))) ∧ w = w' := by
  have ci := Lib.hid (strIndex_c A len cap l x w hl hA)
  go_enter Tryd.func87, Tryd.ntmps87
  go_wp2_with (go_at_call 109; refine ci.out.mono ?_; rintro e w1 ⟨⟨k, rfl, hk⟩, rfl⟩; have HK := Lib.hid hk; clear hk; dsimp only)
  go_ret
  exact ⟨by rw [← HK.out]; rfl, rfl⟩
theorem find1_c (m : Mat) (A : Option Addr) (cap : Nat) (v : List UInt8) (w : World) :
    Calls Tryd.prog 83 #[.agg #[.int .i64 m.1, .string (str m.2.1), .string (str m.2.2.1), .slice A m.2.2.2.length cap], .string (str v)] w fun e w' => e = .returned (.bool (v == m.2.2.1)) ∧ Below w.heap.size w w' := by
  go_enter Tryd.func83, Tryd.ntmps83
  go_wp2_with fail
  go_ret
  exact ⟨rfl, (Below.refl _ _).alloc (Nat.le_refl _) _⟩
theorem find2_c (m : Mat) (A : Option Addr) (cap : Nat) (v : List UInt8) (w : World) :
    Calls Tryd.prog 84 #[.agg #[.int .i64 m.1, .string (str m.2.1), .string (str m.2.2.1), .slice A m.2.2.2.length cap], .string (str v)] w fun e w' => e = .returned (.bool (Lib.hasPrefix v m.2.2.1)) ∧ Below w.heap.size w w' := by
  have cp := fun W => Tryd.strings_HasPrefix (str v) (str m.2.2.1) W
  rw [str_data, str_data] at cp
  go_enter Tryd.func84, Tryd.ntmps84
  go_wp2_with (go_at_call 85; refine (cp _).mono ?_; rintro e w1 ⟨rfl, rfl⟩; dsimp only)
  go_ret
  exact ⟨rfl, (Below.refl _ _).alloc (Nat.le_refl _) _⟩
theorem find3_c (m : Mat) (A : Option Addr) (cap : Nat) (v : List UInt8) (w : World) (hl : m.2.2.2.length ≤ 9223372036854775807) (hA : StrsAt w A m.2.2.2.length m.2.2.2) :
    Calls Tryd.prog 86 #[.agg #[.int .i64 m.1, .string (str m.2.1), .string (str m.2.2.1), .slice A m.2.2.2.length cap], .string (str v)] w fun e w' => e = .returned (.bool (m.2.2.2.any (fun y => y == v))) ∧ Below w.heap.size w w' := by
  have hb1 : Below w.heap.size w (w.alloc (.cells #[.int .i64 m.1, .string (str m.2.1), .string (str m.2.2.1), .slice A m.2.2.2.length cap] 47)) := (Below.refl _ _).alloc (Nat.le_refl _) _
  have cp := contains_c A m.2.2.2.length cap m.2.2.2 v _ hl (hA.below hb1)
  go_enter Tryd.func86, Tryd.ntmps86
  go_wp2_with (go_at_call 87; refine cp.mono ?_; rintro e w1 ⟨rfl, rfl⟩; dsimp only)
  go_ret
  exact ⟨rfl, (Below.refl _ _).alloc (Nat.le_refl _) _⟩
end Go.Proofs.YtdbifbgjbfnfmaaDoor
/-
  Layer 7 (index): the bounds that the laws ask.
-/
namespace Go.Proofs.YtdbifbgjbfnfmaaDoor
open Go.RowKit Go.Deep
attribute [local go_sem] str_size str_append str_toList str_get str_extract
set_option linter.unusedVariables false
set_option linter.unusedSimpArgs false
def SmallL (l : List Lab) : Prop := l.length ≤ 4096 ∧ ∀ x ∈ l, x.1.length ≤ 4096 ∧ x.2.length ≤ 4096
def SmallLL (L : List (List Lab)) : Prop := L.length ≤ 4096 ∧ ∀ l ∈ L, SmallL l
/-- Says whether they are many; if not, they are few. -/
def Says (P : Prop) (e : Ending) : Prop := ∃ b, e = .returned (.bool b) ∧ (b = false → P)
def SmallM (m : Mat) : Prop := m.2.1.length ≤ 1024 ∧ m.2.2.1.length ≤ 1024 ∧ m.2.2.2.length ≤ 20 ∧ ∀ s ∈ m.2.2.2, s.length ≤ 1024
def SmallMs (ms : List Mat) : Prop := ms.length ≤ 40 ∧ ∀ m ∈ ms, SmallM m
def Small20 (ms : List Mat) : Prop := ms.length ≤ 20 ∧ ∀ m ∈ ms, SmallM m
theorem Small20.to {ms : List Mat} (h : Small20 ms) : SmallMs ms := ⟨by have := h.1; omega, h.2⟩
theorem mem_take_next {α : Type} {P : α → Prop} {l : List α} {i : Nat} (h : i < l.length) (h1 : ∀ x ∈ l.take i, P x) (h2 : P l[i]) : ∀ x ∈ l.take (i + 1), P x := by
  rw [List.take_succ_eq_append_getElem h]
  intro x hx
  rcases List.mem_append.1 hx with hx | hx
  · exact h1 x hx
  · simp at hx; subst hx; exact h2
set_option maxRecDepth 100000 in
set_option maxHeartbeats 1000000 in
theorem heavy7_c (A : Option Addr) (len cap : Nat) (L : List (List Lab)) (w : World) (hl : len ≤ 9223372036854775807) (hA : LLAt w A len cap L) :
    Calls Tryd.prog 10 #[.slice A len cap] w fun e w' => Says (SmallLL L) e ∧ Below w.heap.size w w' := by
  have hle := hA.1
  subst hle
  go_enter Tryd.func10, Tryd.ntmps10
  go_wp2_with fail
  go_loopw [3, 4] (fun a c wr => ∃ i n : Nat, i ≤ L.length ∧ c = .int .i64 i ∧ a = .int .i64 n ∧ Hid (n ≤ 4096 → L.length ≤ 4096 ∧ ∀ l ∈ L.take i, SmallL l) ∧ n ≤ 16777216 ∧ Below w.heap.size w wr) (fun _ c _ => L.length - (intOf c).toNat)
  case atStart =>
    refine ⟨0, min L.length 1048576, Nat.zero_le _, rfl, ?_, ?_, by omega, Below.refl _ _⟩
    · simp; omega
    · show _ → _; intro h; exact ⟨by omega, by simp⟩
  case round =>
    obtain ⟨i, n, hi, rfl, rfl, HN, hn, hb⟩ := hrel
    have hbs := hb.size
    by_cases hlt : i < L.length
    · by_cases hg : (n : Int) ≤ 4096
      · obtain ⟨ad, Ai, ci, rfl, h2, h3, h4, h5⟩ := hA.2.2 i hlt
        have hg3 := h3
        have h3 := (hb.cell (p := ad.add i) h2).trans h3
        have hnx := fun h1 h2 => mem_take_next (P := SmallL) hlt h1 h2
        obtain ⟨l, hl2⟩ : ∃ l, L[i]'hlt = l := ⟨_, rfl⟩
        rw [hl2] at h3 hg3 h4 h5 hnx
        unfold maxLen at h5
        have HG := Lib.hid (fun (W : World) (hW : Below w.heap.size w W) => (hW.cell (p := ad.add i) h2).trans hg3)
        obtain ⟨m, hm⟩ : ∃ m, m = n + min l.length 1048576 := ⟨_, rfl⟩
        have em : (n : Int) + min (l.length : Int) 1048576 = (m : Int) := by omega
        have HM : Hid (m ≤ 4096 → n ≤ 4096 ∧ l.length ≤ 4096) := by show _ → _; intro h; omega
        have hm2 : m ≤ 4000000 := by omega
        have HX := Lib.hid (And.intro hnx h4)
        clear hnx hl2 hg3 h4 hm
        obtain ⟨wo, rfl⟩ : ∃ wo : World, wo = wr := ⟨_, rfl⟩
        go_wp2_with fail
        go_loopw [3, 5] (fun a c wr => ∃ k q : Nat, k ≤ l.length ∧ c = .int .i64 k ∧ a = .int .i64 q ∧ Hid (q ≤ 4096 → m ≤ 4096 ∧ ∀ x ∈ l.take k, x.1.length ≤ 4096 ∧ x.2.length ≤ 4096) ∧ q ≤ 16777216 ∧ Below w.heap.size w wr) (fun _ c _ => l.length - (intOf c).toNat)
        case atStart => exact ⟨0, m, Nat.zero_le _, rfl, by first | rfl | (rw [← em]; rfl) | (simp; omega), by show _ → _; intro h; exact ⟨h, by simp⟩, by omega, hb⟩
        case round =>
          clear h3 hbs
          obtain ⟨k, q, hk, rfl, rfl, HQ, hq, hb2⟩ := hrel
          have h3 := HG.out _ hb2
          by_cases hkt : k < l.length
          · by_cases hg2 : (q : Int) ≤ 4096
            · obtain ⟨⟨r1, r2⟩, ad2, rfl, q2, q3, q4⟩ := (HX.out.2.below hb2).2 k hkt
              have hnx := fun h1 h2 => mem_take_next (P := fun x : Lab => x.1.length ≤ 4096 ∧ x.2.length ≤ 4096) hkt h1 h2
              obtain ⟨a, ha⟩ : ∃ a, l[k].1 = a := ⟨_, rfl⟩
              obtain ⟨b, hbb⟩ : ∃ b, l[k].2 = b := ⟨_, rfl⟩
              rw [ha] at r1 q3 hnx
              rw [hbb] at r2 q4 hnx
              obtain ⟨u, hu⟩ : ∃ u, u = q + (min a.length 1048576 + min b.length 1048576) := ⟨_, rfl⟩
              have eu : (q : Int) + (min (a.length : Int) 1048576 + min (b.length : Int) 1048576) = (u : Int) := by omega
              have HU : Hid (u ≤ 4096 → m ≤ 4096 ∧ ∀ x ∈ l.take (k + 1), x.1.length ≤ 4096 ∧ x.2.length ≤ 4096) := by
                show _ → _
                intro h
                have h0 := HQ.out (by omega)
                exact ⟨h0.1, hnx h0.2 ⟨by omega, by omega⟩⟩
              have hu2 : u ≤ 16777216 := by omega
              clear hnx ha hbb hu
              go_wp2_with fail
              go_quiet (fail)
              go_wp2_with fail
              go_roundw
              case rel => exact ⟨k + 1, u, by omega, by go_num, by first | rfl | (rw [← eu]; rfl), HU.out, hu2, below_drewN hb2 _⟩
              case measure => simp [intOf]; omega
            · have t2 : decide ((q : Int) ≤ 4096) = false := by simpa using hg2
              go_wp2_with fail
              go_roundw
              case rel => exact ⟨i + 1, q, by omega, by go_num, rfl, by show _ → _; intro h; omega, hq, hb2⟩
              case measure => simp [intOf]; omega
          · obtain rfl : k = l.length := by omega
            have HE : Hid (q ≤ 4096 → L.length ≤ 4096 ∧ ∀ l ∈ L.take (i + 1), SmallL l) := by
              show _ → _
              intro h
              have h0 := HQ.out h
              rw [List.take_length] at h0
              have h1 := HM.out h0.1
              have h2 := HN.out h1.1
              exact ⟨h2.1, HX.out.1 h2.2 ⟨h1.2, h0.2⟩⟩
            go_wp2_with fail
            go_roundw
            case rel => exact ⟨i + 1, q, by omega, by go_num, rfl, HE.out, hq, hb2⟩
            case measure => simp [intOf]; omega
      · have t1 : decide ((n : Int) ≤ 4096) = false := by simpa using hg
        have t2 : decide (4096 < (n : Int)) = true := by simpa using by omega
        go_wp2_with fail
        go_ret
        exact ⟨⟨true, rfl, fun h => by cases h⟩, hb⟩
    · obtain rfl : i = L.length := by omega
      have HE := Lib.hid HN.out
      by_cases hg : 4096 < (n : Int)
      · have t2 : decide (4096 < (n : Int)) = true := by simpa using hg
        go_wp2_with fail
        go_ret
        exact ⟨⟨true, rfl, fun h => by cases h⟩, hb⟩
      · have t2 : decide (4096 < (n : Int)) = false := by simpa using hg
        go_wp2_with fail
        go_ret
        exact ⟨⟨false, rfl, fun _ => by have := HE.out (by omega); rwa [List.take_length] at this⟩, hb⟩
set_option maxRecDepth 100000 in
set_option maxHeartbeats 1000000 in
theorem large7_c (A : Option Addr) (len cap : Nat) (ms : List Mat) (w : World) (hl : len ≤ 9223372036854775807) (hA : MsAt w A len ms) :
    Calls Tryd.prog 20 #[.slice A len cap] w fun e w' => Says (Small20 ms) e ∧ Below w.heap.size w w' := by
  have hle := hA.1
  subst hle
  by_cases h20 : 20 < (ms.length : Int)
  · have t0 : decide (20 < (ms.length : Int)) = true := by simpa using h20
    go_enter Tryd.func20, Tryd.ntmps20
    go_wp2_with fail
    go_ret
    exact ⟨⟨true, rfl, fun h => by cases h⟩, Below.refl _ _⟩
  have t0 : decide (20 < (ms.length : Int)) = false := by simpa using h20
  go_enter Tryd.func20, Tryd.ntmps20
  go_wp2_with fail
  go_loopw [3] (fun c wr => ∃ i : Nat, i ≤ ms.length ∧ c = .int .i64 i ∧ Hid (∀ m ∈ ms.take i, SmallM m) ∧ Below w.heap.size w wr) (fun c _ => ms.length - (intOf c).toNat)
  case atStart => exact ⟨0, Nat.zero_le _, rfl, by show ∀ _, _; simp, Below.refl _ _⟩
  case round =>
    obtain ⟨i, hi, rfl, HM, hb⟩ := hrel
    by_cases hlt : i < ms.length
    · obtain ⟨⟨r1, r2, r3, r4, r5⟩, ad, rfl, h2, h3, h4, h5, S, c5, h6, h7⟩ := hA.2 i hlt
      have hnx := fun h1 h2 => mem_take_next (P := SmallM) hlt h1 h2
      obtain ⟨m, hm⟩ : ∃ m, ms[i]'hlt = m := ⟨_, rfl⟩
      rw [hm] at r1 r2 r3 r4 r5 h3 h4 h5 h6 h7 hnx
      have HG := Lib.hid (fun (W : World) (hW : Below w.heap.size w W) => (And.intro ((hW.cell (p := ⟨(ad.add (i * 4)).block, (ad.add (i * 4)).off + 1, none⟩) h2).trans h4) (And.intro ((hW.cell (p := ⟨(ad.add (i * 4)).block, (ad.add (i * 4)).off + 2, none⟩) h2).trans h5) ((hW.cell (p := ⟨(ad.add (i * 4)).block, (ad.add (i * 4)).off + 3, none⟩) h2).trans h6))))
      have HX := Lib.hid (And.intro hnx h7)
      obtain ⟨g4, g5, g6⟩ := HG.out _ hb
      clear hnx hm h3 h4 h5 h6 h7
      by_cases n1 : 1024 < (m.2.1.length : Int)
      · have t1 : decide (1024 < (m.2.1.length : Int)) = true := by simpa using n1
        go_wp2_with fail
        go_ret
        exact ⟨⟨true, rfl, fun h => by cases h⟩, hb⟩
      have t1 : decide (1024 < (m.2.1.length : Int)) = false := by simpa using n1
      by_cases n2 : 1024 < (m.2.2.1.length : Int)
      · have t2 : decide (1024 < (m.2.2.1.length : Int)) = true := by simpa using n2
        go_wp2_with fail
        go_ret
        exact ⟨⟨true, rfl, fun h => by cases h⟩, hb⟩
      have t2 : decide (1024 < (m.2.2.1.length : Int)) = false := by simpa using n2
      by_cases n3 : 20 < (m.2.2.2.length : Int)
      · have t3 : decide (20 < (m.2.2.2.length : Int)) = true := by simpa using n3
        go_wp2_with fail
        go_ret
        exact ⟨⟨true, rfl, fun h => by cases h⟩, hb⟩
      have t3 : decide (20 < (m.2.2.2.length : Int)) = false := by simpa using n3
      have HN : Hid (m.2.1.length ≤ 1024 ∧ m.2.2.1.length ≤ 1024 ∧ m.2.2.2.length ≤ 20) := ⟨by omega, by omega, by omega⟩
      clear n1 n2 n3 r1 r2 r4 r5
      obtain ⟨wo, rfl⟩ : ∃ wo : World, wo = wr := ⟨_, rfl⟩
      go_wp2_with fail
      go_loopw [4] (fun c wr => ∃ k : Nat, k ≤ m.2.2.2.length ∧ c = .int .i64 k ∧ Hid (∀ s ∈ m.2.2.2.take k, s.length ≤ 1024) ∧ Below w.heap.size w wr) (fun c _ => m.2.2.2.length - (intOf c).toNat)
      case atStart => exact ⟨0, Nat.zero_le _, rfl, by show ∀ _, _; simp, hb⟩
      case round =>
        clear g4 g5 g6
        obtain ⟨k, hk, rfl, HK, hb2⟩ := hrel
        obtain ⟨g4, g5, g6⟩ := HG.out _ hb2
        by_cases hkt : k < m.2.2.2.length
        · obtain ⟨q1, ad2, rfl, q2, q3⟩ := (HX.out.2.below hb2).2 k hkt
          have hnx := fun h1 h2 => mem_take_next (P := fun s : List UInt8 => s.length ≤ 1024) hkt h1 h2
          obtain ⟨s, hs⟩ : ∃ s, m.2.2.2[k]'hkt = s := ⟨_, rfl⟩
          rw [hs] at q1 q3 hnx
          by_cases n4 : 1024 < (s.length : Int)
          · have t4 : decide (1024 < (s.length : Int)) = true := by simpa using n4
            clear hnx hs
            go_wp2_with fail
            go_ret
            exact ⟨⟨true, rfl, fun h => by cases h⟩, hb2⟩
          · have t4 : decide (1024 < (s.length : Int)) = false := by simpa using n4
            have HE := Lib.hid (hnx HK.out (by omega))
            clear hnx hs
            go_wp2_with fail
            go_roundw
            case rel => exact ⟨k + 1, by omega, by go_num, HE.out, hb2⟩
            case measure => simp [intOf]; omega
        · obtain rfl : k = m.2.2.2.length := by omega
          have HE : Hid (∀ m ∈ ms.take (i + 1), SmallM m) := HX.out.1 HM.out ⟨HN.out.1, HN.out.2.1, HN.out.2.2, by have := HK.out; rwa [List.take_length] at this⟩
          go_wp2_with fail
          go_roundw
          case rel => exact ⟨i + 1, by omega, by go_num, HE.out, hb2⟩
          case measure => simp [intOf]; omega
    · obtain rfl : i = ms.length := by omega
      have HE := Lib.hid HM.out
      go_wp2_with fail
      go_ret
      exact ⟨⟨false, rfl, fun _ => ⟨by omega, by have := HE.out; rwa [List.take_length] at this⟩⟩, hb⟩
end Go.Proofs.YtdbifbgjbfnfmaaDoor
/-
  Layer 4 (label): what Get returns, the program's and the document's; all that was in memory stays.
-/
namespace Go.Proofs.YtdbifbgjbfnfmaaDoor
open Go.RowKit Go.Deep
attribute [local go_sem] str_size str_append str_toList str_get str_extract
set_option linter.unusedVariables false
set_option linter.unusedSimpArgs false
theorem lclone_c (l : List UInt8) (w : World) (h : l.length ≤ 281474976710656) : Calls Tryd.prog 78 #[.string (str l)] w fun e w' => e = .returned (.string (str l)) ∧ Below w.heap.size w w' := by
  go_enter Tryd.func78, Tryd.ntmps78
  go_wp2_with fail
  refine (Tryd.stringslite_Clone (str l) _ (by rw [str_size]; exact h)).mono ?_
  rintro e w' ⟨rfl, hb⟩
  go_wp2_with fail
  go_ret
  exact ⟨rfl, hb⟩
set_option maxHeartbeats 1000000 in
theorem get_c (A : Option Addr) (len cap : Nat) (l : List Lab) (m : List UInt8) (w : World) (hl : len ≤ 140737488355328) (hA : LAt w A len l) (hz : ∀ x ∈ l, x.1.length ≤ 4096 ∧ x.2.length ≤ 4096) :
    Calls Tryd.prog 92 #[.slice A len cap, .string (str m)] w fun e w' => e = .returned (.string (str (getL l m))) ∧ Below w.heap.size w w' := by
  have hle := hA.1
  subst hle
  obtain ⟨R, hR⟩ : ∃ R, getL l m = R := ⟨_, rfl⟩
  rw [hR]
  have HR := Lib.hid hR
  clear hR
  go_enter Tryd.func92, Tryd.ntmps92
  go_wp2_with fail
  go_loopw [9] (fun c wr => ∃ i : Nat, i ≤ l.length ∧ c = .int .i64 i ∧ Hid (getL (l.drop i) m = R) ∧ Below w.heap.size w wr) (fun c _ => l.length - (intOf c).toNat)
  case atStart => exact ⟨0, Nat.zero_le _, rfl, HR.out, Below.refl _ _⟩
  case round =>
    obtain ⟨i, hi, rfl, HI, hb⟩ := hrel
    have hsz := hb.size
    by_cases hlt : i < l.length
    · obtain ⟨-, ad, rfl, h2, h3, h4⟩ := (hA.below hb).2 i hlt
      have hhere := fun e => getL_here (n := m) hlt e
      have hfar := fun e => getL_far (n := m) hlt e
      obtain ⟨z1, z2⟩ := hz _ (List.getElem_mem hlt)
      obtain ⟨x, hx⟩ : ∃ x, l[i]'hlt = x := ⟨_, rfl⟩
      rw [hx] at hhere hfar h3 h4 z1 z2
      obtain ⟨n, v⟩ := x
      simp only at hhere hfar h3 h4 z1 z2
      have hba : Below w.heap.size w (wr.alloc (.cells #[.string (str n), .string (str v)] 60)) := hb.alloc hsz _
      have hsa : w.heap.size ≤ (wr.alloc (.cells #[.string (str n), .string (str v)] 60)).heap.size := by simp; omega
      by_cases hn : n = m
      · have t1 : (n == m) = true := by simpa using hn
        have e := hhere hn
        rw [HI.out] at e
        subst e
        have c1 := fun W => lclone_c R W (by omega)
        clear hhere hfar hn hx
        go_wp2_with (go_at_call 78; refine (c1 _).mono ?_; rintro e w2 ⟨rfl, hb2⟩)
        go_ret
        exact ⟨rfl, hba.trans (hb2.mono hsa)⟩
      · have t1 : (n == m) = false := by rw [beq_eq_false_iff_ne]; exact hn
        have e := hfar hn
        rw [HI.out] at e
        have HE := Lib.hid e
        clear hhere hfar hn hx e
        go_wp2_with fail
        go_roundw
        case rel => exact ⟨i + 1, by omega, by go_num, HE.out.symm, hba⟩
        case measure => simp [intOf]; omega
    · obtain rfl : i = l.length := by omega
      have e := HI.out
      rw [getL_end] at e
      subst e
      go_wp2_with fail
      go_ret
      exact ⟨rfl, hb⟩
set_option maxHeartbeats 1000000 in
theorem refGet_c (A : Option Addr) (len cap : Nat) (l : List Lab) (m : List UInt8) (w : World) (hl : len ≤ 140737488355328) (hA : LAt w A len l) (hz : ∀ x ∈ l, x.1.length ≤ 4096 ∧ x.2.length ≤ 4096) :
    Calls Tryd.prog 98 #[.slice A len cap, .string (str m)] w fun e w' => e = .returned (.string (str (getL l m))) ∧ w = w' := by
  have hle := hA.1
  subst hle
  obtain ⟨R, hR⟩ : ∃ R, getL l m = R := ⟨_, rfl⟩
  rw [hR]
  have HR := Lib.hid hR
  clear hR
  go_enter Tryd.func98, Tryd.ntmps98
  go_wp2_with fail
  go_loopw [5] (fun c wr => ∃ i : Nat, i ≤ l.length ∧ c = .int .i64 i ∧ Hid (getL (l.drop i) m = R) ∧ w = wr) (fun c _ => l.length - (intOf c).toNat)
  case atStart => exact ⟨0, Nat.zero_le _, rfl, HR.out, rfl⟩
  case round =>
    obtain ⟨i, hi, rfl, HI, rfl⟩ := hrel
    by_cases hlt : i < l.length
    · obtain ⟨-, ad, rfl, h2, h3, h4⟩ := hA.2 i hlt
      have hhere := fun e => getL_here (n := m) hlt e
      have hfar := fun e => getL_far (n := m) hlt e
      obtain ⟨z1, z2⟩ := hz _ (List.getElem_mem hlt)
      obtain ⟨x, hx⟩ : ∃ x, l[i]'hlt = x := ⟨_, rfl⟩
      rw [hx] at hhere hfar h3 h4 z1 z2
      obtain ⟨n, v⟩ := x
      simp only at hhere hfar h3 h4 z1 z2
      by_cases hn : n = m
      · have t1 : (n == m) = true := by simpa using hn
        have e := hhere hn
        rw [HI.out] at e
        subst e
        clear hhere hfar hn hx
        go_wp2_with fail
        go_ret
        exact ⟨rfl, rfl⟩
      · have t1 : (n == m) = false := by rw [beq_eq_false_iff_ne]; exact hn
        have e := hfar hn
        rw [HI.out] at e
        have HE := Lib.hid e
        clear hhere hfar hn hx e
        go_wp2_with fail
        go_roundw
        case rel => exact ⟨i + 1, by omega, by go_num, HE.out.symm, by first | rfl | trivial⟩
        case measure => simp [intOf]; omega
    · obtain rfl : i = l.length := by omega
      have e := HI.out
      rw [getL_end] at e
      subst e
      go_wp2_with fail
      go_ret
      exact ⟨rfl, rfl⟩
end Go.Proofs.YtdbifbgjbfnfmaaDoor
/-
  Layer 5 (match): what kindOf returns.
-/
namespace Go.Proofs.YtdbifbgjbfnfmaaDoor
open Go.RowKit Go.Deep
attribute [local go_sem] str_size str_append str_toList str_get str_extract
set_option linter.unusedVariables false
set_option linter.unusedSimpArgs false
/-- A kind's value: its mark, whether it is turned round, whether it looks for many, what it looks for. -/
def kindV (mark : List UInt8) (b c : Bool) (F : Value) : Value := .agg #[.string (str mark), .bool b, .bool c, F]
def kindL (k : Int) : Value :=
  if k = 0 then kindV [] false false (.func (.func 83) #[] #[])
  else if k = 1 then kindV [33] true false (.func (.func 83) #[] #[])
  else if k = 2 then kindV [94] false false (.func (.func 84) #[] #[])
  else if k = 3 then kindV [64] false true (.func (.func 86) #[] #[])
  else kindV [] false false .nilFunc
theorem kindOf_c (k : Int) (w : World) : Calls Tryd.prog 58 #[.int .i64 k] w fun e w' => e = .returned (.tuple #[kindL k, .bool (decide (0 ≤ k ∧ k ≤ 3))]) ∧ Below w.heap.size w w' := by
  have hs1 := fun (a : Addr) (w : World) => run_store Tryd.prog w a (.func (.func 83) #[] #[]) .plain rfl
  have hs2 := fun (a : Addr) (w : World) => run_store Tryd.prog w a (.func (.func 84) #[] #[]) .plain rfl
  have hs3 := fun (a : Addr) (w : World) => run_store Tryd.prog w a (.func (.func 86) #[] #[]) .plain rfl
  have hs4 := fun (a : Addr) (w : World) => run_store Tryd.prog w a .nilFunc .plain rfl
  by_cases h0 : k = 0
  · subst h0
    go_enter Tryd.func58, Tryd.ntmps58
    go_wp2_with fail
    refine bodyPost_ret (v := .tuple #[kindV [] false false (.func (.func 83) #[] #[]), .bool true]) ?_ rfl ⟨?_, ?_⟩
    · rw [results_cell_tmp rfl]; go_simp; try rfl
    · first | rfl | (rw [HE.out.1, HE.out.2])
    · repeat' (first | exact Below.refl _ _ | refine Below.alloc ?_ (by simp <;> omega) _)
  by_cases h1 : k = 1
  · subst h1
    go_enter Tryd.func58, Tryd.ntmps58
    go_wp2_with fail
    refine bodyPost_ret (v := .tuple #[kindV [33] true false (.func (.func 83) #[] #[]), .bool true]) ?_ rfl ⟨?_, ?_⟩
    · rw [results_cell_tmp rfl]; go_simp; try rfl
    · first | rfl | (rw [HE.out.1, HE.out.2])
    · repeat' (first | exact Below.refl _ _ | refine Below.alloc ?_ (by simp <;> omega) _)
  by_cases h2 : k = 2
  · subst h2
    go_enter Tryd.func58, Tryd.ntmps58
    go_wp2_with fail
    refine bodyPost_ret (v := .tuple #[kindV [94] false false (.func (.func 84) #[] #[]), .bool true]) ?_ rfl ⟨?_, ?_⟩
    · rw [results_cell_tmp rfl]; go_simp; try rfl
    · first | rfl | (rw [HE.out.1, HE.out.2])
    · repeat' (first | exact Below.refl _ _ | refine Below.alloc ?_ (by simp <;> omega) _)
  by_cases h3 : k = 3
  · subst h3
    go_enter Tryd.func58, Tryd.ntmps58
    go_wp2_with fail
    refine bodyPost_ret (v := .tuple #[kindV [64] false true (.func (.func 86) #[] #[]), .bool true]) ?_ rfl ⟨?_, ?_⟩
    · rw [results_cell_tmp rfl]; go_simp; try rfl
    · first | rfl | (rw [HE.out.1, HE.out.2])
    · repeat' (first | exact Below.refl _ _ | refine Below.alloc ?_ (by simp <;> omega) _)
  have HE : Hid (kindL k = kindV [] false false .nilFunc ∧ decide (0 ≤ k ∧ k ≤ 3) = false) := by
    refine ⟨?_, decide_eq_false (by omega)⟩
    unfold kindL
    rw [if_neg h0, if_neg h1, if_neg h2, if_neg h3]
  have t0 : (k == 0) = false := by simpa using h0
  have t1 : (k == 1) = false := by simpa using h1
  have t2 : (k == 2) = false := by simpa using h2
  have t3 : (k == 3) = false := by simpa using h3
  clear h0 h1 h2 h3
  go_enter Tryd.func58, Tryd.ntmps58
  go_wp2_with fail
  refine bodyPost_ret (v := .tuple #[kindV [] false false .nilFunc, .bool false]) ?_ rfl ⟨?_, ?_⟩
  · rw [results_cell_tmp rfl]; go_simp; try rfl
  · first | rfl | (rw [HE.out.1, HE.out.2])
  · repeat' (first | exact Below.refl _ _ | refine Below.alloc ?_ (by simp <;> omega) _)
end Go.Proofs.YtdbifbgjbfnfmaaDoor
/-
  A region that draws its order, taken by hand: an operation is told by its number and its slot alone. Plain lemmas; they name no program.
-/
namespace Go.Proofs.YtdbifbgjbfnfmaaDoor
open Go.RowKit Go.Deep
/-- Left in the plain way alone. -/
def OnlyN (R : Act → World → Prop) : Exit → Act → World → Prop
  | .normal, a, w => R a w
  | _, _, _ => False
theorem only_imp {R : Act → World → Prop} {Q : Exit → Act → World → Prop} (h : ∀ a w, R a w → Q .normal a w) : ∀ e a w, OnlyN R e a w → Q e a w := fun e a w hr => by
  cases e <;> first | exact h _ _ hr | exact hr.elim
section
variable {P : Program} {ops : Array Oper} {Q : Exit → Act → World → Prop} {md : Region.Mode} {S : World → Prop}
/-- Operation i runs, yields v in every world that meets S, and is taken first. -/
theorem held_w {i : Nat} {d : Option Nat} {v : Value} {fuel : Nat} {listed : Array Bool} {a : Act} {w : World} (hd : (ops[i]?).map (·.dst) = some d)
    (hs : Region.noSelect ops = true) (hf : Region.free md ops listed i = true) (hr : (Region.ready md ops listed).contains i = true)
    (hQ : ∀ c a w, Q (.panic c) (a.put d v) w → Q (.panic c) a w) (hw : (ops[i]?).map (fun o => Region.wanted o (yielded ops a.tmps)) = some true)
    (hy : ∀ w', S w' → match ops[i]? with | some o => (execOp a.eval o).run P w' = .ok (.value v) w' | none => True) (hS : S w)
    (h : wpAnyH P md ops Q S fuel (listed.setIfInBounds i true) (a.put d v) w) : wpAnyH P md ops Q S (fuel + 1) listed a w := by
  cases ho : ops[i]? with
  | none => rw [ho] at hd; cases hd
  | some o =>
    rw [ho] at hd hw
    simp only [Option.map_some, Option.some.injEq] at hd hw
    subst hd
    exact wpAnyH_take ho hs hf hr hQ (.inl ⟨hw, fun w' hSw => by have := hy w' hSw; rw [ho] at this; exact this⟩) hS h
/-- Operation i is not wanted: its guard is false. -/
theorem held_u {i : Nat} {d : Option Nat} {fuel : Nat} {listed : Array Bool} {a : Act} {w : World} (hd : (ops[i]?).map (·.dst) = some d)
    (hs : Region.noSelect ops = true) (hf : Region.free md ops listed i = true) (hr : (Region.ready md ops listed).contains i = true)
    (hQ : ∀ c a w, Q (.panic c) (a.put d undef) w → Q (.panic c) a w) (hw : (ops[i]?).map (fun o => Region.wanted o (yielded ops a.tmps)) = some false) (hS : S w)
    (h : wpAnyH P md ops Q S fuel (listed.setIfInBounds i true) (a.put d undef) w) : wpAnyH P md ops Q S (fuel + 1) listed a w := by
  cases ho : ops[i]? with
  | none => rw [ho] at hd; cases hd
  | some o =>
    rw [ho] at hd hw
    simp only [Option.map_some, Option.some.injEq] at hd hw
    subst hd
    exact wpAnyH_take ho hs hf hr hQ (.inr ⟨hw, rfl⟩) hS h
/-- Operation i alone may come up. -/
theorem held_c {i : Nat} {fuel : Nat} {listed : Array Bool} {a : Act} {w : World} (hr : Region.ready md ops listed = [i]) (hw : (ops[i]?).map (fun o => Region.wanted o (yielded ops a.tmps)) = some true)
    (h : ∀ K : Act → World → Prop, Shut (∀ a w, S w → (S w → wpAnyH P md ops Q S fuel (listed.setIfInBounds i true) a w) → K a w) → match ops[i]? with | some o => Oper.wp P o a w K Q | none => True) :
    wpAnyH P md ops Q S (fuel + 1) listed a w := by
  cases ho : ops[i]? with
  | none => rw [ho] at hw; cases hw
  | some o =>
    refine wpAnyH_ready hr (by simp) (AllReadyH.cons ho (fun K hK => ?_) AllReadyH.nil)
    rw [ho] at hw
    simp only [Option.map_some, Option.some.injEq] at hw
    rw [if_pos hw]
    have := h K hK
    rw [ho] at this
    exact this
/-- The world under a name. -/
theorem wpAnyH_gen {fuel : Nat} {listed : Array Bool} {a : Act} {w : World} (h : ∀ Wc, Wc = w → wpAnyH P md ops Q S fuel listed a Wc) : wpAnyH P md ops Q S fuel listed a w := h w rfl
/-- What is asked where operation i comes up. -/
def Comes1 (P : Program) (ops : Array Oper) (Q : Exit → Act → World → Prop) (md : Region.Mode) (S : World → Prop) (fuel : Nat) (listed : Array Bool) (a : Act) (w : World) (i : Nat) : Prop :=
  (ops[i]?).map (fun o => Region.wanted o (yielded ops a.tmps)) = some true ∧
    ∀ K : Act → World → Prop, Shut (∀ a w, S w → (S w → wpAnyH P md ops Q S fuel (listed.setIfInBounds i true) a w) → K a w) → match ops[i]? with | some o => Oper.wp P o a w K Q | none => True
def ComesAll (P : Program) (ops : Array Oper) (Q : Exit → Act → World → Prop) (md : Region.Mode) (S : World → Prop) (fuel : Nat) (listed : Array Bool) (a : Act) (w : World) : List Nat → Prop
  | [] => True
  | i :: rs => Comes1 P ops Q md S fuel listed a w i ∧ ComesAll P ops Q md S fuel listed a w rs
/-- Several may come up. -/
theorem held_many {rs : List Nat} {fuel : Nat} {listed : Array Bool} {a : Act} {w : World} (hr : Region.ready md ops listed = rs) (hne : rs ≠ []) (h : ComesAll P ops Q md S fuel listed a w rs) : wpAnyH P md ops Q S (fuel + 1) listed a w := by
  refine wpAnyH_ready hr hne ?_
  clear hr hne
  induction rs with
  | nil => exact AllReadyH.nil
  | cons i rs ih =>
    obtain ⟨⟨hw, h1⟩, h2⟩ := h
    cases ho : ops[i]? with
    | none => rw [ho] at hw; cases hw
    | some o =>
      refine AllReadyH.cons ho (fun K hK => ?_) (ih h2)
      rw [ho] at hw
      simp only [Option.map_some, Option.some.injEq] at hw
      rw [if_pos hw]
      have := h1 K hK
      rw [ho] at this
      exact this
end
end Go.Proofs.YtdbifbgjbfnfmaaDoor
