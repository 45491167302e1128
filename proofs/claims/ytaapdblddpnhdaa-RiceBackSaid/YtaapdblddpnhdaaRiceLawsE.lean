/-
  Layer 2 (rice): RiceBack: numbers that are written, each with its k, are read back, and nothing is left.
-/
import Derived.Test.YtaapdblddpnhdaaRiceLawsD
namespace Go.Proofs.Ytaapdblddpnhdaa
open Go.RowKit Go.Deep
attribute [local go_sem] str_size str_append str_toList str_get str_extract
set_option linter.unusedVariables false
set_option linter.unusedSimpArgs false

theorem stp_info : (Try.prog.info? 29).map (fun i => (i.zero, i.size, i.bytes)) = some (some (.agg #[.int .i64 0, .int .u64 0, .int .i64 0]), 3, 24) := by kernel_rfl
def stpCells (o : Stp) : List Value := [.int .i64 o.1, .int .u64 (o.2.1 : Int), .int .i64 o.2.2]
def cellsS (gs : List Stp) : List Value := gs.flatMap stpCells
theorem cellsS_length (gs : List Stp) : (cellsS gs).length = gs.length * 3 := by
  induction gs with
  | nil => rfl
  | cons g gs ih => simp only [cellsS, List.flatMap_cons, List.length_append, List.length_cons] at ih ⊢; rw [ih]; simp [stpCells]; omega
theorem cellsS_get (gs : List Stp) (i j : Nat) (h : i < gs.length) (hj : j < 3) : (cellsS gs)[i * 3 + j]? = (stpCells gs[i])[j]? := by
  induction gs generalizing i with
  | nil => simp at h
  | cons g gs ih =>
    simp only [cellsS, List.flatMap_cons] at ih ⊢
    cases i with
    | zero => rw [List.getElem?_append_left (by simp [stpCells]; omega)]; simp
    | succ i =>
      rw [List.getElem?_append_right (by simp [stpCells]; omega), show (i + 1) * 3 + j - (stpCells g).length = i * 3 + j by simp [stpCells]; omega, ih i (by simpa using h)]
      simp
/-- What is written of a call that was taken. -/
def encS (o : Stp) : List Bool := if o.1 = 0 then lowB o.2.1 o.2.2.toNat else code o.2.1 o.2.2.toNat
def bitsS (gs : List Stp) : List Bool := gs.flatMap encS
/-- A call that was taken. -/
def GoodS (o : Stp) : Prop := o.2.1 < 18446744073709551616 ∧ 0 ≤ o.2.2 ∧ ((o.1 = 0 ∧ o.2.2 ≤ 64 ∧ o.2.1 / 2 ^ o.2.2.toNat = 0) ∨ (o.1 = 1 ∧ o.2.2 ≤ 40))
theorem goodS_len {o : Stp} (h : GoodS o) : (encS o).length ≤ 88 := by
  obtain ⟨h1, h2, h3⟩ := h
  unfold encS
  split
  · rw [lowB_length]; rcases h3 with h | h <;> omega
  · exact code_le _ _ (by rcases h3 with h | h <;> omega)
theorem bitsS_split (gs : List Stp) (j : Nat) : bitsS gs = bitsS (gs.take j) ++ bitsS (gs.drop j) := by
  unfold bitsS; rw [← List.flatMap_append, List.take_append_drop]
theorem bitsS_len (gs : List Stp) (h : ∀ o, o ∈ gs → GoodS o) : (bitsS gs).length ≤ 88 * gs.length := by
  induction gs with
  | nil => simp [bitsS]
  | cons g gs ih =>
    have h1 := goodS_len (h g (by simp))
    have h2 := ih (fun o ho => h o (by simp [ho]))
    simp only [bitsS, List.flatMap_cons, List.length_append, List.length_cons] at h2 ⊢
    omega
/-- The slice of the calls that were taken. -/
def HasS (B : Nat) (v : Value) (gs : List Stp) (w : World) : Prop := (∃ g cap, v = .slice (some ⟨g, 0, none⟩) gs.length cap) ∧ w.ownsRow B 29 3 v gs.length (cellsS gs)
theorem HasS.empty (w : World) (B : Nat) (hB : B ≤ w.heap.size) : HasS B (.slice (some ⟨w.heap.size, 0, none⟩) 0 0) [] (w.alloc (.cells #[] 29)) :=
  ⟨⟨_, _, rfl⟩, World.ownsRow_made w #[] 0 hB (by unfold maxLen; omega) rfl⟩
theorem IsW.not29 {B p g : Nat} {l : List Bool} {F : List Nat} {w : World} {cs : Array Value} {f : Nat × Nat} (h : IsW B p l F w) (hg : w.heap[g]? = some (.cells cs 29 f)) : g ∉ F := by
  obtain ⟨⟨v, hp, hown, rfl⟩, hB⟩ := h
  intro hm
  simp only [List.mem_cons, Option.mem_toList] at hm
  rcases hm with rfl | hm
  · exact blk_apart hp hg (by decide) rfl
  · rcases hown.2 with ⟨rfl, _⟩ | ⟨g', cap, cur, rfl, _, hh, _⟩
    · simp [Value.ownBlock] at hm
    · have : g' = g := by simpa [Value.ownBlock] using hm
      subst this
      exact blk_apart hh hg (by decide) rfl
theorem IsV.not29 {B p g : Nat} {l : List Bool} {F : List Nat} {w : World} {cs : Array Value} {f : Nat × Nat} (h : IsV B p l F w) (hg : w.heap[g]? = some (.cells cs 29 f)) : g ∉ F := by
  obtain ⟨⟨v, hp, hown, rfl⟩, hB⟩ := h
  intro hm
  simp only [List.mem_cons, Option.mem_toList] at hm
  rcases hm with rfl | hm
  · exact blk_apart hp hg (by decide) rfl
  · rcases hown.2 with ⟨rfl, _⟩ | ⟨g', cap, cur, rfl, _, hh, _⟩
    · simp [Value.ownBlock] at hm
    · have : g' = g := by simpa [Value.ownBlock] using hm
      subst this
      exact blk_apart hh hg (by decide) rfl
theorem row29 {w : World} {B : Nat} {v : Value} {n : Nat} {xs : List Value} (h : w.ownsRow B 29 3 v n xs) : ∀ k, v.ownBlock = some k → ∃ cs, w.heap[k]? = some (.cells cs 29 (0, 0)) := by
  intro k hk
  rcases h.2 with ⟨rfl, _⟩ | ⟨g', cap, cur, rfl, _, hh, _⟩
  · simp [Value.ownBlock] at hk
  · have : g' = k := by simpa [Value.ownBlock] using hk
    subst this
    exact ⟨cur, hh⟩
theorem HasS.keepW {B p : Nat} {v : Value} {gs : List Stp} {l : List Bool} {F : List Nat} {w w' : World} (h : HasS B v gs w) (hW : IsW B p l F w) (k : Keeps F w w') : HasS B v gs w' :=
  ⟨h.1, k.row h.2 fun g hg hm => by obtain ⟨cs, hc⟩ := row29 h.2 g hg; exact hW.not29 hc hm⟩
theorem HasS.keepV {B p : Nat} {v : Value} {gs : List Stp} {l : List Bool} {F : List Nat} {w w' : World} (h : HasS B v gs w) (hW : IsV B p l F w) (k : Keeps F w w') : HasS B v gs w' :=
  ⟨h.1, k.row h.2 fun g hg hm => by obtain ⟨cs, hc⟩ := row29 h.2 g hg; exact hW.not29 hc hm⟩
/-- What stands behind some rounds of writing. -/
def Kept (B p q : Nat) (v : Value) (i : Nat) (w : World) : Prop :=
  ∃ gs : List Stp, gs.length ≤ i ∧ (∀ o, o ∈ gs → GoodS o) ∧ Both B p q (bitsS gs) w ∧ HasS B v gs w
set_option maxHeartbeats 1000000 in
set_option maxRecDepth 100000 in
theorem law_RiceBack (a0 : Option Addr) (len0 cap0 : Nat) (zs : List Stp) (w : World) (hlen : len0 ≤ maxLen) (w0 : StpsAt w a0 len0 zs) :
    Calls Try.prog 5 #[.slice a0 len0 cap0] w fun e w' => e = .returned (.bool true) ∧ Below w.heap.size w w' := by
  unfold maxLen at hlen
  obtain ⟨i0, hi0, hz0, hz1, hz2⟩ := info_parts stp_info
  by_cases h200 : 200 < (len0 : Int)
  · go_enter Try.func5, Try.ntmps5
    go_wp2
    go_ret
    exact ⟨rfl, Below.refl _ _⟩
  · go_enter Try.func5, Try.ntmps5
    go_wp2_with fail
    refine (new_c _).mono ?_
    rintro e w' ⟨rfl, rfl⟩
    go_wp2_with fail
    refine (refNew_c _).mono ?_
    rintro e w' ⟨rfl, rfl⟩
    go_wp2_with fail
    go_loopw [5, 6] (fun v c wr => ∃ i : Nat, i ≤ len0 ∧ c = .int .i64 i ∧ Kept w.heap.size w.heap.size (w.heap.size + 1) v i wr ∧ Below w.heap.size w wr) (fun _ c _ => len0 - (intOf c).toNat)
    case atStart =>
      refine ⟨0, Nat.zero_le _, rfl, ⟨[], Nat.le_refl _, fun o ho => by simp at ho, ⟨[w.heap.size], [w.heap.size + 1], ?_, ?_, by simp⟩, ?_⟩, (((Below.refl _ _).alloc (Nat.le_refl _) _).alloc (by simp) _).alloc (by simp; omega) _⟩
      · exact ((isW_new w _ (Nat.le_refl _)).keeps ((Keeps.refl [] _).alloc _) (by simp)).keeps ((Keeps.refl [] _).alloc _) (by simp)
      · have h := isV_new (w.alloc (.cells #[.slice none 0 0, .int .i64 0] 37)) w.heap.size (by simp)
        have h2 := h.keeps ((Keeps.refl [] _).alloc (.cells #[] 29)) (by simp)
        rw [show bitsS [] = [] from rfl]
        simpa using h2
      · have h := HasS.empty ((w.alloc (.cells #[.slice none 0 0, .int .i64 0] 37)).alloc (.cells #[.slice none 0 0] 58)) w.heap.size (by simp; omega)
        simpa using h
    case round =>
      obtain ⟨i, hi, rfl, ⟨gs, hgl, hgood, ⟨F, G, hW, hV, hap⟩, ⟨g, cap, rfl⟩, hrow⟩, hb⟩ := hrel
      by_cases hlt : i < len0
      · obtain ⟨rfl, hz⟩ := w0
        obtain ⟨b1, b2, b3, b4, b5, ad, rfl, hadl, hd0, hd1, hd2⟩ := hz i hlt
        have hc0 := (hb.cell (p := ad.add (i * 3)) (by rw [blkAdd]; exact hadl)).trans hd0
        have hc1 := (hb.cell (p := ⟨(ad.add (i * 3)).block, (ad.add (i * 3)).off + 1, none⟩) (by rw [blkAdd]; exact hadl)).trans hd1
        have hc2 := (hb.cell (p := ⟨(ad.add (i * 3)).block, (ad.add (i * 3)).off + 2, none⟩) (by rw [blkAdd]; exact hadl)).trans hd2
        obtain ⟨⟨kd0, n, k⟩, hz1⟩ : ∃ z, zs[i] = z := ⟨_, rfl⟩
        rw [hz1] at b1 b2 b3 b4 b5 hc0 hc1 hc2
        obtain ⟨t, ht⟩ : ∃ t : Int, kd0.tmod 2 = t := ⟨_, rfl⟩
        have ht1 : -1 ≤ t ∧ t ≤ 1 := by
          rw [← ht]
          rcases Int.le_total 0 kd0 with h | h
          · rw [Int.tmod_eq_emod_of_nonneg h]; omega
          · rw [show kd0 = -(-kd0) by omega, Int.neg_tmod, Int.tmod_eq_emod_of_nonneg (by omega)]; omega
        obtain ⟨ht1, ht2⟩ := ht1
        have hbl : (bitsS gs).length ≤ 88 * gs.length := bitsS_len gs hgood
        have hbl2 : (bitsS gs).length ≤ 17600 := by omega
        rcases (show t % 2 = 0 ∨ t % 2 = 1 by omega) with ht0 | ht0
        · have hN : (wr.alloc (.cells #[.int .i64 0, .int .u64 (n : Int), .int .i64 k] 29)).heap[wr.heap.size]? = some (.cells #[.int .i64 0, .int .u64 (n : Int), .int .i64 k] 29 (0, 0)) := blk_new _ _
          have hW1 := hW.keeps ((Keeps.refl [] wr).alloc (.cells #[.int .i64 0, .int .u64 (n : Int), .int .i64 k] 29)) (by simp)
          have hV1 := hV.keeps ((Keeps.refl [] wr).alloc (.cells #[.int .i64 0, .int .u64 (n : Int), .int .i64 k] 29)) (by simp)
          have hS1 : HasS w.heap.size (.slice (some ⟨g, 0, none⟩) gs.length cap) gs (wr.alloc (.cells #[.int .i64 0, .int .u64 (n : Int), .int .i64 k] 29)) := ⟨⟨g, cap, rfl⟩, ((Keeps.refl [] wr).alloc (.cells #[.int .i64 0, .int .u64 (n : Int), .int .i64 k] 29)).row hrow (by simp)⟩
          have hb1 : Below w.heap.size w (wr.alloc (.cells #[.int .i64 0, .int .u64 (n : Int), .int .i64 k] 29)) := hb.alloc hb.size _
          have HX := Lib.hid (And.intro hN (And.intro hW1 (And.intro hV1 (And.intro hS1 hb1))))
          have HAP := Lib.hid hap
          clear hN hW1 hV1 hS1 hb1 hz hz1 hrow hap hW hV
          go_wp2_with fail
          refine (put_c _ _ _ _ n k _ b1 (by omega) HX.out.2.1).mono ?_
          rintro e w1 ⟨rfl, F1, hW2, hK1, hF1⟩
          have hn1 := hK1.block HX.out.1 (HX.out.2.1.not29 HX.out.1)
          have s0 := blk_cell hn1 0
          have s1 := blk_cell hn1 1
          have s2 := blk_cell hn1 2
          simp only [List.getElem?_toArray, List.getElem?_cons_zero, List.getElem?_cons_succ] at s0 s1 s2
          have hV2 := HX.out.2.2.1.keeps hK1 HAP.out
          have hS2 := HX.out.2.2.2.1.keepW HX.out.2.1 hK1
          have ap1 := apart_of hF1 HAP.out HX.out.2.2.1.lt
          have hb2 : Below w.heap.size w w1 := HX.out.2.2.2.2.trans (hK1.to HX.out.2.2.2.2.size HX.out.2.1.from)
          have HY := Lib.hid hS2
          clear hS2
          go_wp2_with fail
          refine (refPut_c _ _ _ _ n k _ b1 (by omega) hV2).mono ?_
          rintro e w2 ⟨rfl, G2, hV3, hK2, hG2⟩
          have hn2 := hK2.block hn1 (hV2.not29 hn1)
          have t0 := blk_cell hn2 0
          have t1 := blk_cell hn2 1
          have t2 := blk_cell hn2 2
          simp only [List.getElem?_toArray, List.getElem?_cons_zero, List.getElem?_cons_succ] at t0 t1 t2
          have hW3 := hW2.keeps hK2 (apart_symm ap1)
          have ap2 := apart_symm (apart_of hG2 (apart_symm ap1) hW2.lt)
          have hS3 := HY.out.keepV hV2 hK2
          have hb3 : Below w.heap.size w w2 := hb2.trans (hK2.to hb2.size hV2.from)
          by_cases hE : putE n k = 0
          · have hL : putL (bitsS gs) n k = bitsS (gs ++ [(0, n, k)]) := by
              unfold putL bitsS
              rw [if_pos hE, List.flatMap_append]
              simp [encS]
            have hgd : GoodS (0, n, k) := by
              unfold putE at hE
              split at hE
              · omega
              · rename_i hh; exact ⟨b1, by show 0 ≤ k; omega, .inl ⟨rfl, by show k ≤ 64; omega, by show n / 2 ^ k.toNat = 0; omega⟩⟩
            rw [hL] at hW3 hV3
            have HO := Lib.hid (hS3.2.alloc (.cells #[.int .i64 0, .int .u64 (n : Int), .int .i64 k] 29))
            have HZ := Lib.hid (And.intro hW3 (And.intro hV3 (And.intro ap2 (And.intro hgd hS3))))
            rw [hE]
            clear hW3 hV3 ap2 hgd hS3 hL hE
            have hb3s := hb3.size
            go_wp2_with (at_builtin; refine wpList_append_own_at _ rfl (.tmp 68) (.tmp 70) 22 rfl w.heap.size 29 i0 _ 3 24 Try.underlying22 hi0 hz0 hz1 hz2 rfl (by decide) _ gs.length _ rfl HO.out ⟨w2.heap.size, 0, none⟩ 1 1 [.int .i64 0, .int .u64 (n : Int), .int .i64 k] rfl rfl ?c1 ?c2 ?c3 ?c4 ?c5 ?c6)
            case c1 => exact World.news_of_block (blk_new w2 (.cells #[.int .i64 0, .int .u64 (n : Int), .int .i64 k] 29))
            case c2 => intro u hu; simp at hu; rcases hu with rfl | rfl | rfl <;> rfl
            case c3 => unfold maxLen; omega
            case c4 => omega
            case c5 => simp; omega
            case c6 =>
              intro v' w3 hown3 hg3 hne _
              obtain ⟨hW4, hV4, ap4, hgd4, hS4⟩ := HZ.out
              obtain ⟨gc, hgc⟩ := row29 hS4.2 g rfl
              have hK3 : Keeps [g] w2 w3 := ((Keeps.refl [g] w2).alloc _).grown hg3 (fun k' hk' => .inl (by simp [Value.ownBlock] at hk'; simp [hk']))
              have hS5 : HasS w.heap.size v' (gs ++ [(0, n, k)]) w3 := by
                refine ⟨?_, by simpa [cellsS, stpCells] using hown3⟩
                rcases hown3.2 with ⟨h0, _⟩ | ⟨g', cap', cur, h0, _⟩
                · exact absurd h0 (by simpa using hne)
                · exact ⟨g', cap', by rw [h0]; simp⟩
              have hW5 := hW4.keeps hK3 (fun f hf hm => by simp at hm; subst hm; exact hW4.not29 hgc hf)
              have hV5 := hV4.keeps hK3 (fun f hf hm => by simp at hm; subst hm; exact hV4.not29 hgc hf)
              have hb4 : Below w.heap.size w w3 := hb3.trans (hK3.to hb3s (fun f hf => by simp at hf; subst hf; exact (hS4.2.lt _ rfl).1))
              have hkept : Kept w.heap.size w.heap.size (w.heap.size + 1) v' (i + 1) w3 := ⟨gs ++ [(0, n, k)], by simp; omega, fun o ho => by
                rcases List.mem_append.1 ho with h | h
                · exact hgood o h
                · simp at h; subst h; exact hgd4, ⟨F1, G2, hW5, hV5, ap4⟩, hS5⟩
              obtain ⟨g5, cap5, hv5⟩ := hS5.1
              subst hv5
              clear hown3 hg3 hne hgc hS4 hW4 hV4
              go_wp2
              go_roundw
              case rel => exact ⟨i + 1, by omega, by go_num, hkept, hb4⟩
              case measure => simp [intOf]; omega
          · have hL : putL (bitsS gs) n k = bitsS gs := by unfold putL; rw [if_neg hE]
            rw [hL] at hW3 hV3
            have hEb : (putE n k == 0) = false := by simpa using hE
            have hkept : Kept w.heap.size w.heap.size (w.heap.size + 1) (.slice (some ⟨g, 0, none⟩) gs.length cap) (i + 1) w2 := ⟨gs, by omega, hgood, ⟨F1, G2, hW3, hV3, ap2⟩, hS3⟩
            clear hL hW3 hV3 hS3
            go_wp2_with fail
            go_roundw
            case rel => exact ⟨i + 1, by omega, by go_num, hkept, hb3⟩
            case measure => simp [intOf]; omega
        · have hN : (wr.alloc (.cells #[.int .i64 1, .int .u64 (n : Int), .int .i64 k] 29)).heap[wr.heap.size]? = some (.cells #[.int .i64 1, .int .u64 (n : Int), .int .i64 k] 29 (0, 0)) := blk_new _ _
          have hW1 := hW.keeps ((Keeps.refl [] wr).alloc (.cells #[.int .i64 1, .int .u64 (n : Int), .int .i64 k] 29)) (by simp)
          have hV1 := hV.keeps ((Keeps.refl [] wr).alloc (.cells #[.int .i64 1, .int .u64 (n : Int), .int .i64 k] 29)) (by simp)
          have hS1 : HasS w.heap.size (.slice (some ⟨g, 0, none⟩) gs.length cap) gs (wr.alloc (.cells #[.int .i64 1, .int .u64 (n : Int), .int .i64 k] 29)) := ⟨⟨g, cap, rfl⟩, ((Keeps.refl [] wr).alloc (.cells #[.int .i64 1, .int .u64 (n : Int), .int .i64 k] 29)).row hrow (by simp)⟩
          have hb1 : Below w.heap.size w (wr.alloc (.cells #[.int .i64 1, .int .u64 (n : Int), .int .i64 k] 29)) := hb.alloc hb.size _
          have HX := Lib.hid (And.intro hN (And.intro hW1 (And.intro hV1 (And.intro hS1 hb1))))
          have HAP := Lib.hid hap
          clear hN hW1 hV1 hS1 hb1 hz hz1 hrow hap hW hV
          go_wp2_with fail
          refine (rice_c _ _ _ _ n k _ b1 (by omega) HX.out.2.1).mono ?_
          rintro e w1 ⟨rfl, F1, hW2, hK1, hF1⟩
          have hn1 := hK1.block HX.out.1 (HX.out.2.1.not29 HX.out.1)
          have s0 := blk_cell hn1 0
          have s1 := blk_cell hn1 1
          have s2 := blk_cell hn1 2
          simp only [List.getElem?_toArray, List.getElem?_cons_zero, List.getElem?_cons_succ] at s0 s1 s2
          have hV2 := HX.out.2.2.1.keeps hK1 HAP.out
          have hS2 := HX.out.2.2.2.1.keepW HX.out.2.1 hK1
          have ap1 := apart_of hF1 HAP.out HX.out.2.2.1.lt
          have hb2 : Below w.heap.size w w1 := HX.out.2.2.2.2.trans (hK1.to HX.out.2.2.2.2.size HX.out.2.1.from)
          have HY := Lib.hid hS2
          clear hS2
          go_wp2_with fail
          refine (refRice_c _ _ _ _ n k _ b1 (by omega) hV2).mono ?_
          rintro e w2 ⟨rfl, G2, hV3, hK2, hG2⟩
          have hn2 := hK2.block hn1 (hV2.not29 hn1)
          have t0 := blk_cell hn2 0
          have t1 := blk_cell hn2 1
          have t2 := blk_cell hn2 2
          simp only [List.getElem?_toArray, List.getElem?_cons_zero, List.getElem?_cons_succ] at t0 t1 t2
          have hW3 := hW2.keeps hK2 (apart_symm ap1)
          have ap2 := apart_symm (apart_of hG2 (apart_symm ap1) hW2.lt)
          have hS3 := HY.out.keepV hV2 hK2
          have hb3 : Below w.heap.size w w2 := hb2.trans (hK2.to hb2.size hV2.from)
          by_cases hE : riceE k = 0
          · have hL : riceL (bitsS gs) n k = bitsS (gs ++ [(1, n, k)]) := by
              unfold riceL bitsS
              rw [if_pos hE, List.flatMap_append]
              simp [encS]
            have hgd : GoodS (1, n, k) := by
              unfold riceE at hE
              split at hE
              · omega
              · rename_i hh; exact ⟨b1, by show 0 ≤ k; omega, .inr ⟨rfl, by show k ≤ 40; omega⟩⟩
            rw [hL] at hW3 hV3
            have HO := Lib.hid (hS3.2.alloc (.cells #[.int .i64 1, .int .u64 (n : Int), .int .i64 k] 29))
            have HZ := Lib.hid (And.intro hW3 (And.intro hV3 (And.intro ap2 (And.intro hgd hS3))))
            rw [hE]
            clear hW3 hV3 ap2 hgd hS3 hL hE
            have hb3s := hb3.size
            go_wp2_with (at_builtin; refine wpList_append_own_at _ rfl (.tmp 68) (.tmp 70) 22 rfl w.heap.size 29 i0 _ 3 24 Try.underlying22 hi0 hz0 hz1 hz2 rfl (by decide) _ gs.length _ rfl HO.out ⟨w2.heap.size, 0, none⟩ 1 1 [.int .i64 1, .int .u64 (n : Int), .int .i64 k] rfl rfl ?c1 ?c2 ?c3 ?c4 ?c5 ?c6)
            case c1 => exact World.news_of_block (blk_new w2 (.cells #[.int .i64 1, .int .u64 (n : Int), .int .i64 k] 29))
            case c2 => intro u hu; simp at hu; rcases hu with rfl | rfl | rfl <;> rfl
            case c3 => unfold maxLen; omega
            case c4 => omega
            case c5 => simp; omega
            case c6 =>
              intro v' w3 hown3 hg3 hne _
              obtain ⟨hW4, hV4, ap4, hgd4, hS4⟩ := HZ.out
              obtain ⟨gc, hgc⟩ := row29 hS4.2 g rfl
              have hK3 : Keeps [g] w2 w3 := ((Keeps.refl [g] w2).alloc _).grown hg3 (fun k' hk' => .inl (by simp [Value.ownBlock] at hk'; simp [hk']))
              have hS5 : HasS w.heap.size v' (gs ++ [(1, n, k)]) w3 := by
                refine ⟨?_, by simpa [cellsS, stpCells] using hown3⟩
                rcases hown3.2 with ⟨h0, _⟩ | ⟨g', cap', cur, h0, _⟩
                · exact absurd h0 (by simpa using hne)
                · exact ⟨g', cap', by rw [h0]; simp⟩
              have hW5 := hW4.keeps hK3 (fun f hf hm => by simp at hm; subst hm; exact hW4.not29 hgc hf)
              have hV5 := hV4.keeps hK3 (fun f hf hm => by simp at hm; subst hm; exact hV4.not29 hgc hf)
              have hb4 : Below w.heap.size w w3 := hb3.trans (hK3.to hb3s (fun f hf => by simp at hf; subst hf; exact (hS4.2.lt _ rfl).1))
              have hkept : Kept w.heap.size w.heap.size (w.heap.size + 1) v' (i + 1) w3 := ⟨gs ++ [(1, n, k)], by simp; omega, fun o ho => by
                rcases List.mem_append.1 ho with h | h
                · exact hgood o h
                · simp at h; subst h; exact hgd4, ⟨F1, G2, hW5, hV5, ap4⟩, hS5⟩
              obtain ⟨g5, cap5, hv5⟩ := hS5.1
              subst hv5
              clear hown3 hg3 hne hgc hS4 hW4 hV4
              go_wp2
              go_roundw
              case rel => exact ⟨i + 1, by omega, by go_num, hkept, hb4⟩
              case measure => simp [intOf]; omega
          · have hL : riceL (bitsS gs) n k = bitsS gs := by unfold riceL; rw [if_neg hE]
            rw [hL] at hW3 hV3
            have hEb : (riceE k == 0) = false := by simpa using hE
            have hkept : Kept w.heap.size w.heap.size (w.heap.size + 1) (.slice (some ⟨g, 0, none⟩) gs.length cap) (i + 1) w2 := ⟨gs, by omega, hgood, ⟨F1, G2, hW3, hV3, ap2⟩, hS3⟩
            clear hL hW3 hV3 hS3
            go_wp2_with fail
            go_roundw
            case rel => exact ⟨i + 1, by omega, by go_num, hkept, hb3⟩
            case measure => simp [intOf]; omega
      · obtain rfl : i = len0 := by omega
        have hbl : (bitsS gs).length ≤ 88 * gs.length := bitsS_len gs hgood
        have hgs200 : gs.length ≤ 200 := by omega
        have hbl2 : (bitsS gs).length ≤ 17600 := by omega
        have hby := bytes_c _ _ _ _ _ (by omega) hW
        obtain ⟨s, hs⟩ : ∃ s, s = packB (bitsS gs) := ⟨_, rfl⟩
        rw [← hs] at hby
        have hsl : s.length ≤ 2400 := by rw [hs, packB_length]; omega
        have hrest : rest s 0 = bitsS gs ++ List.replicate (8 * (((bitsS gs).length + 7) / 8) - (bitsS gs).length) false := by rw [hs, rest_zero]
        have hs8 : 8 * s.length = 8 * (((bitsS gs).length + 7) / 8) := by rw [hs, packB_length]
        have HB := Lib.hid hby
        have HR := Lib.hid (And.intro hrest hs8)
        have HW := Lib.hid hW
        have HRow := Lib.hid hrow
        have hpos : ∀ j, j ≤ gs.length → rest s (bitsS (gs.take j)).length = bitsS (gs.drop j) ++ List.replicate (8 * (((bitsS gs).length + 7) / 8) - (bitsS gs).length) false := by
          intro j hj
          have h := rest_next s 0 (bitsS (gs.take j)) (bitsS (gs.drop j) ++ List.replicate (8 * (((bitsS gs).length + 7) / 8) - (bitsS gs).length) false) (by
            rw [hrest, ← List.append_assoc]
            rw [← bitsS_split gs j])
          rwa [Nat.zero_add] at h
        have hposl : ∀ j, j ≤ gs.length → (bitsS (gs.take j)).length ≤ 8 * s.length := by
          intro j hj
          have h := congrArg List.length (hpos j hj)
          rw [rest_length, List.length_append, List.length_replicate] at h
          have h2 : (bitsS gs).length = (bitsS (gs.take j)).length + (bitsS (gs.drop j)).length := by
            rw [← List.length_append, ← bitsS_split]
          omega
        have HP : Hid (∀ j, j ≤ gs.length → rest s (bitsS (gs.take j)).length = bitsS (gs.drop j) ++ List.replicate (8 * (((bitsS gs).length + 7) / 8) - (bitsS gs).length) false) := hpos
        have HPL : Hid (∀ j, j ≤ gs.length → (bitsS (gs.take j)).length ≤ 8 * s.length) := hposl
        have HG : Hid (∀ o, o ∈ gs → GoodS o) := hgood
        have hgl2 : g < wr.heap.size := (hrow.lt g rfl).2
        have hFl := hW.lt
        have HFl : Hid (∀ k, k ∈ F → k < wr.heap.size) := hFl
        clear hby hs hrest hs8 hrow hpos hposl hgood hW hV hap hFl hgl w0
        go_wp2_with fail
        refine HB.out.mono ?_
        rintro e w' ⟨rfl, rfl⟩
        go_wp2_with fail
        refine (read_c s _ (by omega)).mono ?_
        rintro e w4 ⟨p4, rfl, hR4, hp4, hK4⟩
        have hb4 : Below w.heap.size w w4 := below2 hb hK4.nil hb.size
        have hrow4 := hK4.row HRow.out (by simp)
        have hW4 := HW.out.keeps hK4 (by simp)
        have hF4 : p4 ∉ F := fun h => by have := HFl.out p4 h; omega
        have hg4 : g ≠ p4 := by omega
        have hpB : w.heap.size ≤ p4 := Nat.le_trans hb.size hp4
        have H4 := Lib.hid (And.intro hrow4 (And.intro hW4 hF4))
        clear hrow4 hW4 hF4
        go_wp2_with fail
        obtain ⟨wo, rfl⟩ : ∃ wo : World, wo = wr := ⟨_, rfl⟩
        go_loopw [10] (fun c wr => ∃ j : Nat, j ≤ gs.length ∧ c = .int .i64 j ∧ IsR 64 p4 s (bitsS (gs.take j)).length wr ∧ Keeps [p4] w4 wr) (fun c _ => gs.length - (intOf c).toNat)
        case atStart => exact ⟨0, Nat.zero_le _, rfl, hR4, Keeps.refl _ _⟩
        case round =>
          obtain ⟨j, hj, rfl, hRl, hKl⟩ := hrel
          have hbl5 : Below w.heap.size w wr := hb4.trans (hKl.to hb4.size (fun f hf => by simp at hf; subst hf; exact hpB))
          by_cases hjl : j < gs.length
          · have hrow5 := hKl.row H4.out.1 (fun k hk hm => by simp [Value.ownBlock] at hk; simp at hm; omega)
            obtain ⟨⟨kd, n, k⟩, ho⟩ : ∃ o, gs[j] = o := ⟨_, rfl⟩
            have hgo := HG.out gs[j] (List.getElem_mem hjl)
            rw [ho] at hgo
            obtain ⟨hn64, hk0, hkk⟩ := hgo
            simp only at hn64 hk0 hkk
            obtain ⟨k, rfl⟩ : ∃ m : Nat, k = m := ⟨k.toNat, by omega⟩
            have hcell : ∀ r, r < 3 → wr.cell? ⟨g, j * 3 + r, none⟩ = (stpCells gs[j])[r]? := by
              intro r hr
              have h := hrow5.cellAt (j * 3 + r) (by omega)
              rw [h]; exact cellsS_get gs j r hjl hr
            have c0 := hcell 0 (by omega)
            have c1 := hcell 1 (by omega)
            have c2 := hcell 2 (by omega)
            rw [ho] at c0 c1 c2
            simp only [stpCells, List.getElem?_cons_zero, List.getElem?_cons_succ, Nat.add_zero] at c0 c1 c2
            have hdrop : bitsS (gs.drop j) = encS (kd, n, (k : Int)) ++ bitsS (gs.drop (j + 1)) := by
              rw [List.drop_eq_getElem_cons hjl, ho]; simp [bitsS]
            have htake : (bitsS (gs.take (j + 1))).length = (bitsS (gs.take j)).length + (encS (kd, n, (k : Int))).length := by
              rw [List.take_succ_eq_append_getElem hjl, ho]; simp [bitsS]
            have hps := HP.out j hj
            rw [hdrop, List.append_assoc] at hps
            have hpl1 := HPL.out j hj
            have hpl2 := HPL.out (j + 1) hjl
            rw [htake] at hpl2
            have HT := Lib.hid htake
            generalize (bitsS (gs.take j)).length = a at *
            generalize bitsS (gs.drop (j + 1)) ++ List.replicate (8 * (((bitsS gs).length + 7) / 8) - (bitsS gs).length) false = rr at hps
            rcases hkk with ⟨rfl, hk64, hnz⟩ | ⟨rfl, hk40⟩
            · have hen : encS (0, n, (k : Int)) = lowB n k := rfl
              rw [hen] at hps
              have hT := HT.out
              rw [hen, lowB_length] at hT hpl2
              obtain ⟨g1, g2, g3⟩ := get_ok (s := s) (a := a) (b := k) (by omega) hpl2
              rw [nextB_rest, hps, num_low_back n k rr hnz] at g2
              have hget := get_c p4 s a k wr (by omega) hpl1 hRl
              rw [g1, g2, g3] at hget
              have HGT := Lib.hid hget
              have HTT := Lib.hid hT
              clear hcell hdrop hps hnz hen hT g1 g2 g3 hget htake ho hrow5
              go_wp2_with fail
              refine HGT.out.mono ?_
              rintro e w6 ⟨rfl, hR6, hK6⟩
              have hb6 := hK6
              have d1 : w6.cell? ⟨g, j * 3 + 1, none⟩ = some (.int .u64 (n : Int)) := (World.cell?_of_block (hK6.same g (by have := hKl.size; have := hK4.size; omega) (by simp; omega))).trans c1
              go_wp2_with fail
              go_roundw
              case rel => exact ⟨j + 1, hjl, by go_num, by rw [HTT.out]; exact hR6, hKl.trans hK6 (fun g hg => .inl hg)⟩
              case measure => simp [intOf]; omega
            · have hen : encS (1, n, (k : Int)) = code n k := rfl
              rw [hen] at hps
              have hT := HT.out
              rw [hen] at hT
              obtain ⟨g1, g2, g3⟩ := dec_code n k rr hn64 (by omega)
              rw [← hps] at g1 g2 g3
              have hget := rdRice_c p4 s a k wr (by omega) hpl1 hRl
              rw [g1, g2, g3] at hget
              have HGT := Lib.hid hget
              have HTT := Lib.hid hT
              clear hcell hdrop hps hen hT g1 g2 g3 hget htake ho hrow5
              go_wp2_with fail
              refine HGT.out.mono ?_
              rintro e w6 ⟨rfl, hR6, hK6⟩
              have d1 : w6.cell? ⟨g, j * 3 + 1, none⟩ = some (.int .u64 (n : Int)) := (World.cell?_of_block (hK6.same g (by have := hKl.size; have := hK4.size; omega) (by simp; omega))).trans c1
              go_wp2_with fail
              go_roundw
              case rel => exact ⟨j + 1, hjl, by go_num, by rw [HTT.out]; exact hR6, hKl.trans hK6 (fun g hg => .inl hg)⟩
              case measure => simp [intOf]; omega
          · obtain rfl : j = gs.length := by omega
            have hps := HP.out gs.length (Nat.le_refl _)
            have hpl := HPL.out gs.length (Nat.le_refl _)
            have hend := end_c p4 s _ wr (by omega) hpl hRl
            rw [hps, List.drop_length, show bitsS [] = [] from rfl, List.nil_append, endE_zeros _ (by omega)] at hend
            have hWl := H4.out.2.1.keeps hKl (fun f hf hm => by simp at hm; subst hm; exact H4.out.2.2 hf)
            have HE := Lib.hid hend
            have HWl := Lib.hid hWl
            clear hps hpl hend hWl
            go_wp2_with fail
            refine HE.out.mono ?_
            rintro e w7 ⟨rfl, hK7⟩
            go_wp2_with fail
            have hput := put_c w.heap.size w.heap.size (bitsS gs) F 0 (-1) w7 (by omega) (by omega) (HWl.out.keeps hK7 (by simp))
            rw [show putE 0 (-1) = 1 by unfold putE; rw [if_pos]; omega] at hput
            refine hput.mono ?_
            rintro e w8 ⟨rfl, F8, hW8, hK8, hF8⟩
            go_wp2_with fail
            go_ret
            have hb7 := below2 hbl5 hK7.nil hbl5.size
            exact ⟨rfl, hb7.trans (hK8.to hb7.size HW.out.from)⟩
end Go.Proofs.Ytaapdblddpnhdaa
