/-
  Layer 2 (rice): RiceReads: whatever is read of any bytes, the program's reader and the document's answer the same.
-/
import Derived.Test.YtaapdblddpnhdaaRiceLawsC
namespace Go.Proofs.Ytaapdblddpnhdaa
open Go.RowKit Go.Deep
attribute [local go_sem] str_size str_append str_toList str_get str_extract
set_option linter.unusedVariables false
set_option linter.unusedSimpArgs false

theorem getA_le (s : List UInt8) (a : Nat) (b : Int) (h : a ≤ 8 * s.length) : getA s a b ≤ 8 * s.length := by
  unfold getA
  split
  · rename_i h0
    unfold getE at h0
    split at h0
    · omega
    · split at h0 <;> omega
  · exact h
theorem decN_le (l : List Bool) (k : Int) : decN l k ≤ l.length := by
  unfold decN
  split
  · rename_i h0
    unfold decE at h0
    have := (lead_le l).2
    split at h0
    · omega
    · split at h0
      · rename_i h24
        rw [if_pos h24]
        split at h0
        · omega
        · omega
      · rename_i h24
        rw [if_neg h24]
        split at h0 <;> omega
  · omega
/-- Both readers stand at one place of s. -/
def Same (p q : Nat) (s : List UInt8) (w : World) : Prop := ∃ a, a ≤ 8 * s.length ∧ IsR 64 p s a w ∧ IsR 66 q s a w
set_option maxHeartbeats 1000000 in
set_option maxRecDepth 100000 in
theorem law_RiceReads (a0 : ByteArray) (a1 : Option Addr) (len1 cap1 : Nat) (zs : List Stp) (w : World) (w0 : a0.size ≤ maxLen) (hlen : len1 ≤ maxLen) (w1 : StpsAt w a1 len1 zs) :
    Calls Try.prog 4 #[.string a0, .slice a1 len1 cap1] w fun e w' => e = .returned (.bool true) ∧ Below w.heap.size w w' := by
  obtain ⟨s, rfl⟩ := str_of a0
  rw [str_size] at w0
  unfold maxLen at hlen w0
  by_cases h1024 : 1024 < (s.length : Int)
  · go_enter Try.func4, Try.ntmps4
    go_wp2
    go_ret
    exact ⟨rfl, Below.refl _ _⟩
  by_cases h200 : 200 < (len1 : Int)
  · go_enter Try.func4, Try.ntmps4
    go_wp2
    go_ret
    exact ⟨rfl, Below.refl _ _⟩
  · go_enter Try.func4, Try.ntmps4
    go_wp2_with fail
    refine (read_c s _ (by omega)).mono ?_
    rintro e wa ⟨p, rfl, hRa, hpa, hKa⟩
    go_wp2_with fail
    refine (refRead_c s _).mono ?_
    rintro e w' ⟨rfl, rfl⟩
    have hba := hKa.nil
    have hbb : Below w.heap.size w (wa.alloc (.cells #[.string (str s), .int .i64 ((0 : Nat) : Int)] 66)) := hba.alloc hba.size _
    have hS0 : Same p wa.heap.size s (wa.alloc (.cells #[.string (str s), .int .i64 ((0 : Nat) : Int)] 66)) := ⟨0, Nat.zero_le _, hRa.keeps ((Keeps.refl [] wa).alloc _) (by simp), IsR.new wa _ s 0⟩
    have hqa := hba.size
    generalize wa.heap.size = q at *
    have hSS := Lib.hid (And.intro hS0 hbb)
    clear hS0 hbb
    go_wp2_with fail
    go_loopw [7] (fun c wr => ∃ i : Nat, i ≤ len1 ∧ c = .int .i64 i ∧ Same p q s wr ∧ Below w.heap.size w wr) (fun c _ => len1 - (intOf c).toNat)
    case atStart => exact ⟨0, Nat.zero_le _, rfl, hSS.out.1, hSS.out.2⟩
    case round =>
      obtain ⟨i, hi, rfl, ⟨a, ha, hRp, hRq⟩, hb⟩ := hrel
      by_cases hlt : i < len1
      · obtain ⟨rfl, hz⟩ := w1
        obtain ⟨b1, b2, b3, b4, b5, ad, rfl, hadl, hd0, hd1, hd2⟩ := hz i hlt
        have hc0 := (hb.cell (p := ad.add (i * 3)) (by rw [blkAdd]; exact hadl)).trans hd0
        have hc1 := (hb.cell (p := ⟨(ad.add (i * 3)).block, (ad.add (i * 3)).off + 1, none⟩) (by rw [blkAdd]; exact hadl)).trans hd1
        have hc2 := (hb.cell (p := ⟨(ad.add (i * 3)).block, (ad.add (i * 3)).off + 2, none⟩) (by rw [blkAdd]; exact hadl)).trans hd2
        obtain ⟨⟨kd, n, k⟩, hz1⟩ : ∃ z, zs[i] = z := ⟨_, rfl⟩
        rw [hz1] at b1 b2 b3 b4 b5 hc0 hc1 hc2
        have hN : (wr.alloc (.cells #[.int .i64 kd, .int .u64 (n : Int), .int .i64 k] 29)).heap[wr.heap.size]? = some (.cells #[.int .i64 kd, .int .u64 (n : Int), .int .i64 k] 29 (0, 0)) := blk_new _ _
        have hRp1 : IsR _ p s a (wr.alloc (.cells #[.int .i64 kd, .int .u64 (n : Int), .int .i64 k] 29)) := hRp.keeps ((Keeps.refl [] wr).alloc _) (by simp)
        have hRq1 : IsR _ q s a (wr.alloc (.cells #[.int .i64 kd, .int .u64 (n : Int), .int .i64 k] 29)) := hRq.keeps ((Keeps.refl [] wr).alloc _) (by simp)
        have hpq : p ≠ q := blk_apart hRp hRq (by decide)
        have hpl := hRp.lt
        have hql := hRq.lt
        have hb1 : Below w.heap.size w (wr.alloc (.cells #[.int .i64 kd, .int .u64 (n : Int), .int .i64 k] 29)) := hb.alloc hb.size _
        have HX := Lib.hid (And.intro hN (And.intro hRp1 (And.intro hRq1 hb1)))
        have hrl := rest_length s a
        have hdl := decN_le (rest s a) k
        have hgl := getA_le s a k ha
        have HL := Lib.hid (And.intro hrl (And.intro hdl hgl))
        clear hN hRp1 hRq1 hb1 hz hz1 hrl hdl hgl
        by_cases hk0 : kd = 0
        · subst hk0
          go_wp2_with fail
          refine (get_c p s a k _ (by omega) ha HX.out.2.1).mono ?_
          rintro e w2 ⟨rfl, hRp2, hK2⟩
          have hn2 := hK2.block HX.out.1 (by simp; omega)
          have s0 := blk_cell hn2 0
          have s1 := blk_cell hn2 1
          have s2 := blk_cell hn2 2
          simp only [List.getElem?_toArray, List.getElem?_cons_zero, List.getElem?_cons_succ] at s0 s1 s2
          have hRq2 := HX.out.2.2.1.keeps hK2 (by simp; omega)
          go_wp2_with fail
          refine (refGet_c q s a k _ (by omega) ha hRq2).mono ?_
          rintro e w3 ⟨rfl, hR3, hK3⟩
          have hR2 := hRp2.keeps hK3 (by simp; omega)
          have hb2 : Below w.heap.size w w2 := HX.out.2.2.2.trans (hK2.to HX.out.2.2.2.size (fun f hf => by simp at hf; subst hf; exact hpa))
          have hb3 : Below w.heap.size w w3 := hb2.trans (hK3.to hb2.size (fun f hf => by simp at hf; subst hf; exact hqa))
          have hav : getA s a k ≤ 8 * s.length := by have := HL.out; omega
          generalize getA s a k = av at *
          go_wp2_with fail

          refine (left_c p s av _ (by omega) hav hR2).mono ?_
          rintro e w' ⟨rfl, rfl⟩
          go_wp2_with fail
          refine (refLeft_c q s av _ (by omega) (by omega) (IsR.drew hR3)).mono ?_
          rintro e w' ⟨rfl, rfl⟩
          rw [show (8 * s.length : Int) - (av : Int) = ((8 * s.length - av : Nat) : Int) by omega]
          go_wp2_with fail
          go_roundw
          case rel => exact ⟨i + 1, by omega, by go_num, ⟨av, hav, IsR.drew (IsR.drew hR2), IsR.drew (IsR.drew hR3)⟩, hb3.drew.drew⟩
          case measure => simp [intOf]; omega
        · by_cases hk1 : kd = 1
          · subst hk1
            go_wp2_with fail
            refine (rdRice_c p s a k _ (by omega) ha HX.out.2.1).mono ?_
            rintro e w2 ⟨rfl, hRp2, hK2⟩
            have hn2 := hK2.block HX.out.1 (by simp; omega)
            have s0 := blk_cell hn2 0
            have s1 := blk_cell hn2 1
            have s2 := blk_cell hn2 2
            simp only [List.getElem?_toArray, List.getElem?_cons_zero, List.getElem?_cons_succ] at s0 s1 s2
            have hRq2 := HX.out.2.2.1.keeps hK2 (by simp; omega)
            go_wp2_with fail
            refine (refRice_rd_c q s a k _ (by omega) ha hRq2).mono ?_
            rintro e w3 ⟨rfl, hR3, hK3⟩
            have hR2 := hRp2.keeps hK3 (by simp; omega)
            have hb2 : Below w.heap.size w w2 := HX.out.2.2.2.trans (hK2.to HX.out.2.2.2.size (fun f hf => by simp at hf; subst hf; exact hpa))
            have hb3 : Below w.heap.size w w3 := hb2.trans (hK3.to hb2.size (fun f hf => by simp at hf; subst hf; exact hqa))
            have hav : a + decN (rest s a) k ≤ 8 * s.length := by have := HL.out; omega
            generalize a + decN (rest s a) k = av at *
            go_wp2_with fail

            refine (left_c p s av _ (by omega) hav hR2).mono ?_
            rintro e w' ⟨rfl, rfl⟩
            go_wp2_with fail
            refine (refLeft_c q s av _ (by omega) (by omega) (IsR.drew hR3)).mono ?_
            rintro e w' ⟨rfl, rfl⟩
            rw [show (8 * s.length : Int) - (av : Int) = ((8 * s.length - av : Nat) : Int) by omega]
            go_wp2_with fail
            go_roundw
            case rel => exact ⟨i + 1, by omega, by go_num, ⟨av, hav, IsR.drew (IsR.drew hR2), IsR.drew (IsR.drew hR3)⟩, hb3.drew.drew⟩
            case measure => simp [intOf]; omega
          · by_cases hk2 : kd = 2
            · subst hk2
              go_wp2_with fail
              refine (end_c p s a _ (by omega) ha HX.out.2.1).mono ?_
              rintro e w2 ⟨rfl, hK2⟩
              have hR1 := HX.out.2.1.keeps hK2 (by simp)
              have hRq2 := HX.out.2.2.1.keeps hK2 (by simp)
              go_wp2_with fail
              refine (refEnd_c q s a _ (by omega) ha hRq2).mono ?_
              rintro e w' ⟨rfl, rfl⟩
              have hb3 : Below w.heap.size w w2.drew := (HX.out.2.2.2.trans (hK2.to HX.out.2.2.2.size (by simp))).drew
              have hR2 := IsR.drew hR1
              have hR3 := IsR.drew hRq2
              have hav : a ≤ 8 * s.length := ha
              go_wp2_with fail

              refine (left_c p s a _ (by omega) hav hR2).mono ?_
              rintro e w' ⟨rfl, rfl⟩
              go_wp2_with fail
              refine (refLeft_c q s a _ (by omega) (by omega) (IsR.drew hR3)).mono ?_
              rintro e w' ⟨rfl, rfl⟩
              rw [show (8 * s.length : Int) - (a : Int) = ((8 * s.length - a : Nat) : Int) by omega]
              go_wp2_with fail
              go_roundw
              case rel => exact ⟨i + 1, by omega, by go_num, ⟨a, hav, IsR.drew (IsR.drew hR2), IsR.drew (IsR.drew hR3)⟩, hb3.drew.drew⟩
              case measure => simp [intOf]; omega
            · have hkb0 : (kd == 0) = false := by simpa using hk0
              have hkb1 : (kd == 1) = false := by simpa using hk1
              have hkb2 : (kd == 2) = false := by simpa using hk2
              go_wp2_with fail
              have hR2 := HX.out.2.1
              have hR3 := HX.out.2.2.1
              have hb3 := HX.out.2.2.2
              have hav : a ≤ 8 * s.length := ha
              refine (left_c p s a _ (by omega) hav hR2).mono ?_
              rintro e w' ⟨rfl, rfl⟩
              go_wp2_with fail
              refine (refLeft_c q s a _ (by omega) (by omega) (IsR.drew hR3)).mono ?_
              rintro e w' ⟨rfl, rfl⟩
              rw [show (8 * s.length : Int) - (a : Int) = ((8 * s.length - a : Nat) : Int) by omega]
              go_wp2_with fail
              go_roundw
              case rel => exact ⟨i + 1, by omega, by go_num, ⟨a, hav, IsR.drew (IsR.drew hR2), IsR.drew (IsR.drew hR3)⟩, hb3.drew.drew⟩
              case measure => simp [intOf]; omega
      · obtain rfl : i = len1 := by omega
        have hg := get_c p s a 65 wr (by omega) ha hRp
        rw [(get_arg (s := s) (a := a) (b := 65) (by omega)).1] at hg
        have HG := Lib.hid hg
        clear hg
        go_wp2_with fail
        refine HG.out.mono ?_
        rintro e w2 ⟨rfl, -, hK2⟩
        go_wp2_with fail
        go_ret
        exact ⟨rfl, hb.trans (hK2.to hb.size (fun f hf => by simp at hf; subst hf; exact hpa))⟩
end Go.Proofs.Ytaapdblddpnhdaa
