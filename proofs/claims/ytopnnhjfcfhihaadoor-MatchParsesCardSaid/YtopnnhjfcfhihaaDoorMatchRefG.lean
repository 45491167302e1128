/-
  Layer 5 (match): what the document's own Parse returns; all that was in memory stays.
-/
import Derived.Test.YtopnnhjfcfhihaaDoorMatchG
import Derived.Test.YtopnnhjfcfhihaaDoorMatchRefP
import Derived.Test.YtopnnhjfcfhihaaDoorMatchParseR
import Derived.Test.YtopnnhjfcfhihaaDoorLabelR
namespace Go.Proofs.YtopnnhjfcfhihaaDoor
open Go.RowKit Go.Deep
attribute [local go_sem] str_size str_append str_toList str_get str_extract
set_option linter.unusedVariables false
set_option linter.unusedSimpArgs false
theorem printM_nil {L : List Mat} (h : okMs L = true) (hp : printM L = [91, 93]) : L = [] := by
  cases L with
  | nil => rfl
  | cons m r =>
    have hm := okMs_mem h m (by simp)
    unfold printM at hp
    rw [partsM_cons] at hp
    have := congrArg List.length hp
    have h1 := List.length_pos_iff.2 (textM_ne hm)
    simp at this
    omega
theorem last_take {s : List UInt8} {a k : Nat} (hak : a ≤ k) (hk : k < s.length) : ((s.drop a).take (k + 1 - a)).getLast? = some s[k] ∧ ((s.drop a).take (k + 1 - a)).dropLast = (s.drop a).take (k - a) := by
  have e : (s.drop a).take (k + 1 - a) = (s.drop a).take (k - a) ++ [s[k]] := by
    rw [show k + 1 - a = (k - a) + 1 by omega, List.take_succ_eq_append_getElem (by rw [List.length_drop]; omega)]
    congr 2
    simp
    congr 1
    omega
  rw [e]
  simp
set_option maxRecDepth 100000 in
set_option maxHeartbeats 8000000 in
theorem mrefParse_c (s : List UInt8) (w : World) (hs : s.length ≤ 4096) :
    Calls Tryd.prog 18 #[.string (str s)] w fun e w' => ParsedM s e w' ∧ Below w.heap.size w w' := by
  obtain ⟨i0, hi0, hz0, hz1, hz2⟩ := info_parts mat_info
  obtain ⟨j0, hj0, hj1, hj2, hj3⟩ := info_parts str_info
  by_cases h2 : s = [91, 93]
  · subst h2
    have HZ : Hid (∀ w' : World, ParsedM [91, 93] (.returned (.tuple #[.slice (some ⟨w.heap.size, 0, none⟩) 0 0, .int .i64 0])) w') := fun w' => .inr ⟨_, _, [], rfl, MsAt.nil _ _, rfl, rfl, fun L h1 h2 => printM_nil h1 h2⟩
    go_enter Tryd.func18, Tryd.ntmps18
    go_wp2_with fail
    go_ret2
    exact ⟨HZ.out _, (Below.refl _ _).alloc (Nat.le_refl _) _⟩
  have t2 : (s == [91, 93]) = false := by rw [beq_eq_false_iff_ne]; exact h2
  have HG0 := Lib.hid (GoesN.start h2)
  have HERR : Hid ((∀ L, okMs L = true → printM L ≠ s) → ∀ w', ParsedM s (.returned (.tuple #[.slice none 0 0, .int .i64 11])) w') := fun h w' => .inl ⟨rfl, h⟩
  clear h2
  go_enter Tryd.func18, Tryd.ntmps18
  go_wp2_with fail
  go_loopw [4, 5] (fun v c wr => ∃ (a : Nat) (acc : List MatS), c = .int .i64 a ∧ 1 ≤ a ∧ a ≤ s.length + 1 ∧ acc.length ≤ a ∧ wr.ownsRow w.heap.size 30 4 v acc.length (matC acc) ∧ Hid ((∀ x ∈ acc, SetAt wr x ∧ (0 ≤ x.1.1 ∧ x.1.1 ≤ 3) ∧ smallM x.1) ∧ GoesN s (acc.map (·.1)) a) ∧ Below w.heap.size w wr) (fun _ c _ => s.length + 1 - (intOf c).toNat)
  case atStart => exact ⟨1, [], rfl, by omega, by omega, by simp, World.ownsRow_made w #[] 0 (Nat.le_refl _) (by unfold maxLen; omega) rfl, ⟨by simp, HG0.out⟩, (Below.refl _ _).alloc (Nat.le_refl _) _⟩
  case round =>
    clear t2
    obtain ⟨a, acc, rfl, ha1, ha, hal, hown, HG, hb⟩ := hrel
    obtain ⟨A, cap, rfl⟩ := row_slice hown
    have hsz := hb.size
    have hlow := Lib.hid (ownLow hown)
    obtain ⟨wp, rfl⟩ : ∃ wp : World, wp = wr := ⟨_, rfl⟩
    by_cases hlt : a < s.length
    · have HO := Lib.hid hown
      have HALL := Lib.hid HG.out.1
      have HGN := Lib.hid HG.out.2
      clear hown HG
      go_wp2_with fail
      go_loopw [6] (fun c wr => ∃ k : Nat, c = .int .i64 k ∧ a ≤ k ∧ k ≤ s.length ∧ Hid (∀ j (hj : j < s.length), a ≤ j → j < k → (s[j]'hj).toNat ≠ 61) ∧ wp = wr) (fun c _ => s.length - (intOf c).toNat)
      case atStart => exact ⟨a, rfl, Nat.le_refl _, by omega, fun j hj h1 h2 => by omega, rfl⟩
      case round =>
        obtain ⟨k, rfl, hak, hks, HJ, rfl⟩ := hrel
        by_cases hkl : k < s.length
        · obtain ⟨x, hx⟩ : ∃ x, s[k]'hkl = x := ⟨_, rfl⟩
          have HX := Lib.hid hx
          have hxl : x.toNat < 256 := x.toNat_lt
          by_cases h61 : x.toNat = 61
          · have t1 : (((x.toNat : Nat) : Int) != 61) = false := by simp [bne, h61]
            have hc := cutE_at hak hkl (by rw [HX.out]; exact h61) HJ.out
            have tk : ((k : Int) == (s.length : Int)) = false := by rw [beq_eq_false_iff_ne]; omega
            by_cases hka : k = a
            · subst hka
              have hc' : cutE (s.drop k) = some ([], s.drop (k + 1)) := by rw [hc]; simp
              have HZ := Lib.hid (HERR.out (HGN.out.noName hlt hc'))
              clear hc'
              clear hc
              go_wp2_with fail
              go_ret2
              exact ⟨HZ.out _, hb⟩
            obtain ⟨k1, rfl⟩ : ∃ k1, k = k1 + 1 := ⟨k - 1, by omega⟩
            have tka : (((k1 + 1 : Nat) : Int) == (a : Int)) = false := by rw [beq_eq_false_iff_ne]; omega
            have tkb : (((k1 : Nat) : Int) + 1 == (a : Int)) = false := by rw [beq_eq_false_iff_ne]; omega
            have ek1 : ((k1 + 1 : Nat) : Int) - 1 = (k1 : Int) := by omega
            have hk1s : k1 < s.length := by omega
            have htk : (s.drop (k1 + 1 + 1)).take (s.length - (k1 + 1 + 1)) = s.drop (k1 + 1 + 1) := List.take_of_length_le (by rw [List.length_drop]; omega)
            have cq := fun W => refQuoted_c (s.drop (k1 + 1 + 1)) W (by rw [List.length_drop]; omega)
            have hql := quotedL_le (s.drop (k1 + 1 + 1))
            rw [List.length_drop] at hql
            have hnoq := fun h => HERR.out (HGN.out.noQuote hlt hc h)
            obtain ⟨hl1, hl2⟩ := last_take (s := s) (a := a) (k := k1) (by omega) hk1s
            obtain ⟨y, hy⟩ : ∃ y, s[k1]'hk1s = y := ⟨_, rfl⟩
            have hyl : y.toNat < 256 := y.toNat_lt
            rw [hy] at hl1
            obtain ⟨⟨V, NQ⟩, hVN⟩ : ∃ p, quotedL (s.drop (k1 + 1 + 1)) = p := ⟨_, rfl⟩
            have hstep := fun kk n (h : kindR ((s.drop a).take (k1 + 1 - a)) = (kk, n)) => HGN.out.step hlt hc h hVN
            rw [hVN] at cq hql hnoq
            simp only at cq hql hnoq
            obtain ⟨N0, hN0⟩ : ∃ N, (s.drop a).take (k1 + 1 - a) = N := ⟨_, rfl⟩
            obtain ⟨N1, hN1⟩ : ∃ N, (s.drop a).take (k1 - a) = N := ⟨_, rfl⟩
            rw [hN0] at hl1 hl2 hstep
            rw [hN1] at hl2
            clear hc hVN
            by_cases y33 : y.toNat = 33
            · have hy33 : y = 33 := u8_eq y33
              have ty : (((y.toNat : Nat) : Int) == 33) = true := by simp [y33]
              have hkr : kindR N0 = (1, N1) := by unfold kindR; rw [hl1, hy33, if_pos rfl, hl2]
              by_cases hQ0 : NQ = 0
              · have HZ := Lib.hid (hnoq hQ0)
                subst hQ0
                clear hstep hkr hnoq
                go_wp2_with (go_at_call 31; refine (cq _).mono ?_; rintro e w2 ⟨rfl, rfl⟩)
                go_ret2
                exact ⟨HZ.out _, hb.alloc hsz _⟩
              have tQ : ((NQ : Int) == 0) = false := by rw [beq_eq_false_iff_ne]; omega
              have hmo : matOf 1 N1 [V] = (1, N1, V, []) := by unfold matOf; rw [if_neg (by decide)]; rfl
              have hv := GoesV.one (hstep 1 N1 hkr) (by decide)
              rw [hmo] at hv
              have HV := Lib.hid hv
              have hnm : N1.length ≤ s.length := by rw [← hN1, List.length_take, List.length_drop]; omega
              clear hstep hkr hmo hv hnoq hQ0
              have hO2 := (HO.out.alloc (.cells #[.int .i64 1, .string (str N1), .string (str V), .slice none 0 0] 30)).alloc (.cells #[.int .i64 1, .string (str N1), .string (str V), .slice none 0 0] 30)
              have hc4 := cells_four_new (wp.alloc (.cells #[.int .i64 1, .string (str N1), .string (str V), .slice none 0 0] 30)) (.int .i64 1) (.string (str N1)) (.string (str V)) (.slice none 0 0) 30
              rw [show (wp.alloc (.cells #[.int .i64 1, .string (str N1), .string (str V), .slice none 0 0] 30)).heap.size = wp.heap.size + 1 by simp] at hc4
              have hsz2 : ((wp.alloc (.cells #[.int .i64 1, .string (str N1), .string (str V), .slice none 0 0] 30)).alloc (.cells #[.int .i64 1, .string (str N1), .string (str V), .slice none 0 0] 30)).heap.size = wp.heap.size + 1 + 1 := by simp
              have HO2 := Lib.hid hO2
              have HC4 := Lib.hid hc4
              have HUP : Hid (∀ y, SetAt wp y → SetAt ((wp.alloc (.cells #[.int .i64 1, .string (str N1), .string (str V), .slice none 0 0] 30)).alloc (.cells #[.int .i64 1, .string (str N1), .string (str V), .slice none 0 0] 30)) y) := fun y hy => (hy.alloc _).alloc _
              have HBX : Hid (Below w.heap.size w ((wp.alloc (.cells #[.int .i64 1, .string (str N1), .string (str V), .slice none 0 0] 30)).alloc (.cells #[.int .i64 1, .string (str N1), .string (str V), .slice none 0 0] 30))) := (hb.alloc hsz _).alloc (by simp; omega) _
              clear hO2 hc4
              go_wp2_with (first | (go_at_call 31; refine (cq _).mono ?_; rintro e w2 ⟨rfl, rfl⟩) | (at_builtin; refine wpList_append_lies _ rfl (.tmp 132) (.tmp 134) 22 rfl w.heap.size 30 i0 (.agg #[.int .i64 0, .string (str []), .string (str []), .slice none 0 0]) 4 64 Tryd.underlying22 hi0 hz0 hz1 hz2 rfl (by decide) _ acc.length _ rfl HO2.out ⟨wp.heap.size + 1, 0, none⟩ 1 1 [.int .i64 1, .string (str N1), .string (str V), .slice none 0 0] rfl rfl HC4.out ?c2 (by decide) ?c3 ?c4 ?c5 _ rfl ?c6))
              case c2 => intro u hu; simp at hu; rcases hu with rfl | rfl | rfl | rfl <;> rfl
              case c3 => unfold maxLen; omega
              case c4 => omega
              case c5 => rw [hsz2]; omega
              case c6 =>
                intro g9 cap9 w9 hown9 hg9 _ hl9
                have hb9 : Below w.heap.size w w9 := HBX.out.grown hg9 (by rw [hsz2]; omega) hlow.out
                have HA9 : Hid (∀ y ∈ acc ++ [(((1 : Int), N1, V, []), none, 0)], SetAt w9 y ∧ (0 ≤ y.1.1 ∧ y.1.1 ≤ 3) ∧ smallM y.1) := fun y hy => by
                  rcases List.mem_append.1 hy with hy | hy
                  · obtain ⟨y1, y2⟩ := HALL.out y hy
                    exact ⟨(HUP.out y y1).grown HO2.out hg9, y2⟩
                  · simp at hy
                    subst hy
                    exact ⟨SetAt.grown (⟨rfl, .inl ⟨rfl, rfl⟩⟩ : SetAt _ (((1 : Int), N1, V, []), none, 0)) HO2.out hg9, by constructor <;> simp, ⟨by show N1.length ≤ 16384; omega, by show V.length ≤ 16384; omega, by simp, by intro x hx; simp at hx⟩⟩
                have HO9 := Lib.hid hown9
                clear hown9 hg9
                go_wp2_with fail
                go_roundw
                case rel => exact ⟨k1 + 1 + 1 + NQ + 1, acc ++ [(((1 : Int), N1, V, []), none, 0)], by go_num, by omega, by omega, by simp; omega, by rw [List.length_append, matC_append]; exact HO9.out, ⟨HA9.out, by rw [List.map_append]; exact HV.out⟩, hb9⟩
                case measure => simp [intOf]; omega
            have ty1 : (((y.toNat : Nat) : Int) == 33) = false := by rw [beq_eq_false_iff_ne]; omega
            by_cases y94 : y.toNat = 94
            · have hy94 : y = 94 := u8_eq y94
              have ty : (((y.toNat : Nat) : Int) == 94) = true := by simp [y94]
              have hkr : kindR N0 = (2, N1) := by unfold kindR; rw [hl1, hy94, if_neg (by decide), if_pos rfl, hl2]
              by_cases hQ0 : NQ = 0
              · have HZ := Lib.hid (hnoq hQ0)
                subst hQ0
                clear hstep hkr hnoq
                go_wp2_with (go_at_call 31; refine (cq _).mono ?_; rintro e w2 ⟨rfl, rfl⟩)
                go_ret2
                exact ⟨HZ.out _, hb.alloc hsz _⟩
              have tQ : ((NQ : Int) == 0) = false := by rw [beq_eq_false_iff_ne]; omega
              have hmo : matOf 2 N1 [V] = (2, N1, V, []) := by unfold matOf; rw [if_neg (by decide)]; rfl
              have hv := GoesV.one (hstep 2 N1 hkr) (by decide)
              rw [hmo] at hv
              have HV := Lib.hid hv
              have hnm : N1.length ≤ s.length := by rw [← hN1, List.length_take, List.length_drop]; omega
              clear hstep hkr hmo hv hnoq hQ0
              have hO2 := (HO.out.alloc (.cells #[.int .i64 2, .string (str N1), .string (str V), .slice none 0 0] 30)).alloc (.cells #[.int .i64 2, .string (str N1), .string (str V), .slice none 0 0] 30)
              have hc4 := cells_four_new (wp.alloc (.cells #[.int .i64 2, .string (str N1), .string (str V), .slice none 0 0] 30)) (.int .i64 2) (.string (str N1)) (.string (str V)) (.slice none 0 0) 30
              rw [show (wp.alloc (.cells #[.int .i64 2, .string (str N1), .string (str V), .slice none 0 0] 30)).heap.size = wp.heap.size + 1 by simp] at hc4
              have hsz2 : ((wp.alloc (.cells #[.int .i64 2, .string (str N1), .string (str V), .slice none 0 0] 30)).alloc (.cells #[.int .i64 2, .string (str N1), .string (str V), .slice none 0 0] 30)).heap.size = wp.heap.size + 1 + 1 := by simp
              have HO2 := Lib.hid hO2
              have HC4 := Lib.hid hc4
              have HUP : Hid (∀ y, SetAt wp y → SetAt ((wp.alloc (.cells #[.int .i64 2, .string (str N1), .string (str V), .slice none 0 0] 30)).alloc (.cells #[.int .i64 2, .string (str N1), .string (str V), .slice none 0 0] 30)) y) := fun y hy => (hy.alloc _).alloc _
              have HBX : Hid (Below w.heap.size w ((wp.alloc (.cells #[.int .i64 2, .string (str N1), .string (str V), .slice none 0 0] 30)).alloc (.cells #[.int .i64 2, .string (str N1), .string (str V), .slice none 0 0] 30))) := (hb.alloc hsz _).alloc (by simp; omega) _
              clear hO2 hc4
              go_wp2_with (first | (go_at_call 31; refine (cq _).mono ?_; rintro e w2 ⟨rfl, rfl⟩) | (at_builtin; refine wpList_append_lies _ rfl (.tmp 132) (.tmp 134) 22 rfl w.heap.size 30 i0 (.agg #[.int .i64 0, .string (str []), .string (str []), .slice none 0 0]) 4 64 Tryd.underlying22 hi0 hz0 hz1 hz2 rfl (by decide) _ acc.length _ rfl HO2.out ⟨wp.heap.size + 1, 0, none⟩ 1 1 [.int .i64 2, .string (str N1), .string (str V), .slice none 0 0] rfl rfl HC4.out ?c2 (by decide) ?c3 ?c4 ?c5 _ rfl ?c6))
              case c2 => intro u hu; simp at hu; rcases hu with rfl | rfl | rfl | rfl <;> rfl
              case c3 => unfold maxLen; omega
              case c4 => omega
              case c5 => rw [hsz2]; omega
              case c6 =>
                intro g9 cap9 w9 hown9 hg9 _ hl9
                have hb9 : Below w.heap.size w w9 := HBX.out.grown hg9 (by rw [hsz2]; omega) hlow.out
                have HA9 : Hid (∀ y ∈ acc ++ [(((2 : Int), N1, V, []), none, 0)], SetAt w9 y ∧ (0 ≤ y.1.1 ∧ y.1.1 ≤ 3) ∧ smallM y.1) := fun y hy => by
                  rcases List.mem_append.1 hy with hy | hy
                  · obtain ⟨y1, y2⟩ := HALL.out y hy
                    exact ⟨(HUP.out y y1).grown HO2.out hg9, y2⟩
                  · simp at hy
                    subst hy
                    exact ⟨SetAt.grown (⟨rfl, .inl ⟨rfl, rfl⟩⟩ : SetAt _ (((2 : Int), N1, V, []), none, 0)) HO2.out hg9, by constructor <;> simp, ⟨by show N1.length ≤ 16384; omega, by show V.length ≤ 16384; omega, by simp, by intro x hx; simp at hx⟩⟩
                have HO9 := Lib.hid hown9
                clear hown9 hg9
                go_wp2_with fail
                go_roundw
                case rel => exact ⟨k1 + 1 + 1 + NQ + 1, acc ++ [(((2 : Int), N1, V, []), none, 0)], by go_num, by omega, by omega, by simp; omega, by rw [List.length_append, matC_append]; exact HO9.out, ⟨HA9.out, by rw [List.map_append]; exact HV.out⟩, hb9⟩
                case measure => simp [intOf]; omega
            have ty2 : (((y.toNat : Nat) : Int) == 94) = false := by rw [beq_eq_false_iff_ne]; omega
            by_cases y64 : y.toNat = 64
            · have hy64 : y = 64 := u8_eq y64
              have ty : (((y.toNat : Nat) : Int) == 64) = true := by simp [y64]
              have hkr : kindR N0 = (3, N1) := by unfold kindR; rw [hl1, hy64, if_neg (by decide), if_neg (by decide), if_pos rfl, hl2]
              by_cases hQ0 : NQ = 0
              · have HZ := Lib.hid (hnoq hQ0)
                subst hQ0
                clear hstep hkr hnoq
                go_wp2_with (go_at_call 31; refine (cq _).mono ?_; rintro e w2 ⟨rfl, rfl⟩)
                go_ret2
                exact ⟨HZ.out _, hb.alloc hsz _⟩
              have tQ : ((NQ : Int) == 0) = false := by rw [beq_eq_false_iff_ne]; omega
              have HV := Lib.hid (hstep 3 N1 hkr)
              have hnm : N1.length ≤ s.length := by rw [← hN1, List.length_take, List.length_drop]; omega
              clear hstep hkr hnoq hQ0
              have hc1 := cell_one_new (wp.alloc (.cells #[.int .i64 3, .string (str N1), .string (str []), .slice none 0 0] 30)) (.string (str V)) 9
              rw [show (wp.alloc (.cells #[.int .i64 3, .string (str N1), .string (str []), .slice none 0 0] 30)).heap.size = wp.heap.size + 1 by simp] at hc1
              have HC1 := Lib.hid hc1
              have hsz1 : ((wp.alloc (.cells #[.int .i64 3, .string (str N1), .string (str []), .slice none 0 0] 30)).alloc (.cells #[.string (str V)] 9)).heap.size = wp.heap.size + 1 + 1 := by simp
              clear hc1
              go_wp2_with (first | (go_at_call 31; refine (cq _).mono ?_; rintro e w2 ⟨rfl, rfl⟩) | (at_builtin; refine wpList_append_lies _ rfl (.tmp 97) (.tmp 99) 28 rfl wp.heap.size 9 j0 (.string (str [])) 1 16 Tryd.underlying28 hj0 hj1 hj2 hj3 rfl (by decide) _ 0 [] rfl ⟨rfl, .inl ⟨rfl, rfl⟩⟩ ⟨wp.heap.size + 1, 0, none⟩ 1 1 [.string (str V)] rfl rfl HC1.out ?d2 (by decide) ?d3 ?d4 ?d5 _ rfl ?d6))
              case d2 => intro u hu; simp at hu; subst hu; rfl
              case d3 => unfold maxLen; omega
              case d4 => omega
              case d5 => simp; omega
              case d6 =>
                intro g1 cap1 w4 hown1 hg1 _ hl1'
                have hb4 : Below wp.heap.size wp w4 := (((Below.refl _ wp).alloc (Nat.le_refl _) (.cells #[.int .i64 3, .string (str N1), .string (str []), .slice none 0 0] 30)).alloc (by simp) (.cells #[.string (str V)] 9)).grown hg1 (by simp; omega) (fun k hk => by simp [Value.ownBlock] at hk)
                have hd4 : w4.heap[wp.heap.size]? = some (.cells #[.int .i64 3, .string (str N1), .string (str []), .slice none 0 0] 30 (0, 0)) := (hg1.block wp.heap.size (by simp; omega) (by simp [Value.ownBlock])).trans (blk_alloc (blk_new wp _) _)
                have hne1 : (Value.slice (some ⟨g1, 0, none⟩) (0 + 1) cap1).ownBlock ≠ some wp.heap.size := fun e => row_apart hown1 hd4 (by decide) _ e rfl
                have hd5 : (w4.setCell ⟨wp.heap.size, 3, none⟩ (.slice (some ⟨g1, 0, none⟩) 1 cap1)).heap[wp.heap.size]? = some (.cells #[.int .i64 3, .string (str N1), .string (str []), .slice (some ⟨g1, 0, none⟩) 1 cap1] 30 (0, 0)) := by have := blk_set hd4 3 (.slice (some ⟨g1, 0, none⟩) 1 cap1); simpa using this
                have hr5 : (w4.setCell ⟨wp.heap.size, 3, none⟩ (.slice (some ⟨g1, 0, none⟩) 1 cap1)).ownsRow wp.heap.size 9 1 (.slice (some ⟨g1, 0, none⟩) 1 cap1) 1 (strsC [V]) := row_set hown1 hne1 _
                have hb5 : Below wp.heap.size wp (w4.setCell ⟨wp.heap.size, 3, none⟩ (.slice (some ⟨g1, 0, none⟩) 1 cap1)) := hb4.setCell (p := ⟨wp.heap.size, 3, none⟩) (Nat.le_refl _) _
                have d3 := blk_cell hd4 3
                have f3 := blk_free hd4 3
                simp only [List.getElem?_toArray, List.getElem?_cons_zero, List.getElem?_cons_succ] at d3
                have H5 := Lib.hid (And.intro hd5 (And.intro hr5 hb5))
                clear hd4 hd5 hr5 hb5 hb4 hown1 hg1 hne1
                go_wp2_with fail
                go_loopw [5] (fun c wr => ∃ (a2 : Nat) (vs : List (List UInt8)) (g cp : Nat), c = .int .i64 a2 ∧ (k1 + 1 < a2 ∧ a2 ≤ s.length) ∧ wr.heap[wp.heap.size]? = some (.cells #[.int .i64 3, .string (str N1), .string (str []), .slice (some ⟨g, 0, none⟩) vs.length cp] 30 (0, 0)) ∧ wr.ownsRow wp.heap.size 9 1 (.slice (some ⟨g, 0, none⟩) vs.length cp) vs.length (strsC vs) ∧ vs.length ≤ a2 ∧ Hid (∀ x ∈ vs, x.length ≤ s.length) ∧ Hid (GoesV s (acc.map (·.1)) 3 N1 vs a2) ∧ Below wp.heap.size wp wr) (fun c _ => s.length + 1 - (intOf c).toNat)
                case atStart => exact ⟨k1 + 1 + 1 + NQ, [V], g1, cap1, by first | rfl | go_num, by omega, H5.out.1, H5.out.2.1, by simp; omega, fun x hx => by simp at hx; subst hx; omega, HV.out, H5.out.2.2⟩
                case round =>
                  clear d3 f3 H5 HV
                  obtain ⟨a2, vs, g, cp, rfl, ⟨hka2, ha2⟩, hblk, hrow, hvl, HVS, HV2, hbi⟩ := hrel
                  have hszi := hbi.size
                  have d0 := blk_cell hblk 0
                  have d1 := blk_cell hblk 1
                  have d2 := blk_cell hblk 2
                  have d3 := blk_cell hblk 3
                  have f3 := blk_free hblk 3
                  have hbl := lt_of_block hblk
                  simp only [List.getElem?_toArray, List.getElem?_cons_zero, List.getElem?_cons_succ] at d0 d1 d2 d3
                  by_cases hl2' : a2 < s.length
                  · obtain ⟨z, hz⟩ : ∃ z, s[a2]'hl2' = z := ⟨_, rfl⟩
                    have hzl : z.toNat < 256 := z.toNat_lt
                    by_cases z124 : z.toNat = 124
                    · have tz : (((z.toNat : Nat) : Int) == 124) = true := by simp [z124]
                      have hz' : s[a2]'hl2' = 124 := by rw [hz]; exact u8_eq z124
                      have hbad2 := fun h => HERR.out (GoesV.bad HV2.out hl2' hz' h)
                      have hnx2 := fun u N h => GoesV.step (u := u) (N := N) HV2.out hl2' hz' h
                      have htk2 : (s.drop (a2 + 1)).take (s.length - (a2 + 1)) = s.drop (a2 + 1) := List.take_of_length_le (by rw [List.length_drop]; omega)
                      have cq2 := fun W => refQuoted_c (s.drop (a2 + 1)) W (by rw [List.length_drop]; omega)
                      have hql2 := quotedL_le (s.drop (a2 + 1))
                      rw [List.length_drop] at hql2
                      obtain ⟨⟨U, I⟩, hUI⟩ : ∃ p, quotedL (s.drop (a2 + 1)) = p := ⟨_, rfl⟩
                      have hnx3 := hnx2 U I hUI
                      rw [hUI] at cq2 hql2 hbad2
                      simp only at cq2 hql2 hbad2
                      have HNX := Lib.hid hnx3
                      clear hnx2 hnx3 hUI hz'
                      by_cases hI0 : I = 0
                      · have HZ := Lib.hid (hbad2 hI0)
                        subst hI0
                        clear hbad2
                        go_wp2_with (go_at_call 31; refine (cq2 _).mono ?_; rintro e w2 ⟨rfl, rfl⟩)
                        go_ret2
                        exact ⟨HZ.out _, hb.trans (hbi.mono hsz)⟩
                      · have tI : ((I : Int) == 0) = false := by rw [beq_eq_false_iff_ne]; omega
                        have HR2 := Lib.hid (hrow.alloc (.cells #[.string (str U)] 9))
                        have hlo2 := Lib.hid (ownLow hrow)
                        have HBK := Lib.hid hblk
                        clear hbad2 hI0 hrow hblk
                        go_wp2_with (first | (go_at_call 31; refine (cq2 _).mono ?_; rintro e w2 ⟨rfl, rfl⟩) | (at_builtin; refine wpList_append_lies _ rfl (.tmp 123) (.tmp 125) 28 rfl wp.heap.size 9 j0 (.string (str [])) 1 16 Tryd.underlying28 hj0 hj1 hj2 hj3 rfl (by decide) _ vs.length _ rfl HR2.out ⟨wr.heap.size, 0, none⟩ 1 1 [.string (str U)] rfl rfl (cell_one_new _ _ _) ?e2 (by decide) ?e3 ?e4 ?e5 _ rfl ?e6))
                        case e2 => intro u hu; simp at hu; subst hu; rfl
                        case e3 => unfold maxLen; omega
                        case e4 => omega
                        case e5 => simp; omega
                        case e6 =>
                          intro g2 cap2 w6 hown2 hg2 _ hl2''
                          have hb6 : Below wp.heap.size wp w6 := (hbi.alloc hszi _).grown hg2 (by simp; omega) hlo2.out
                          have hd6 : w6.heap[wp.heap.size]? = some (.cells #[.int .i64 3, .string (str N1), .string (str []), .slice (some ⟨g, 0, none⟩) vs.length cp] 30 (0, 0)) := (hg2.block wp.heap.size (by simp; omega) (fun e => row_apart HR2.out (blk_alloc HBK.out _) (by decide) _ e.symm rfl)).trans (blk_alloc HBK.out _)
                          have hne2 : (Value.slice (some ⟨g2, 0, none⟩) (vs.length + 1) cap2).ownBlock ≠ some wp.heap.size := fun e => row_apart hown2 hd6 (by decide) _ e rfl
                          have hd7 : (w6.setCell ⟨wp.heap.size, 3, none⟩ (.slice (some ⟨g2, 0, none⟩) (vs.length + 1) cap2)).heap[wp.heap.size]? = some (.cells #[.int .i64 3, .string (str N1), .string (str []), .slice (some ⟨g2, 0, none⟩) (vs.length + 1) cap2] 30 (0, 0)) := by have := blk_set hd6 3 (.slice (some ⟨g2, 0, none⟩) (vs.length + 1) cap2); simpa using this
                          have hr7 := row_set hown2 hne2 (p := ⟨wp.heap.size, 3, none⟩) (.slice (some ⟨g2, 0, none⟩) (vs.length + 1) cap2)
                          rw [← strsC_snoc] at hr7
                          have hb7 : Below wp.heap.size wp (w6.setCell ⟨wp.heap.size, 3, none⟩ (.slice (some ⟨g2, 0, none⟩) (vs.length + 1) cap2)) := hb6.setCell (p := ⟨wp.heap.size, 3, none⟩) (Nat.le_refl _) _
                          have dd3 := blk_cell hd6 3
                          have ff3 := blk_free hd6 3
                          simp only [List.getElem?_toArray, List.getElem?_cons_zero, List.getElem?_cons_succ] at dd3
                          have H7 := Lib.hid (And.intro hd7 (And.intro hr7 hb7))
                          have HVS7 : Hid (∀ x ∈ vs ++ [U], x.length ≤ s.length) := fun x hx => by
                            rcases List.mem_append.1 hx with hx | hx
                            · exact HVS.out x hx
                            · simp at hx; subst hx; omega
                          clear hd6 hd7 hr7 hb7 hb6 hown2 hg2 hne2 d0 d1 d2 d3 f3
                          go_wp2_with fail
                          go_roundw
                          case rel =>
                            have hlen : (vs ++ [U]).length = vs.length + 1 := by simp
                            exact ⟨a2 + 1 + I, vs ++ [U], g2, cap2, by go_num, by omega, by rw [hlen]; exact H7.out.1, by rw [hlen]; exact H7.out.2.1, by rw [hlen]; omega, HVS7.out, HNX.out, H7.out.2.2⟩
                          case measure => simp [intOf]; omega
                    · have tz : (((z.toNat : Nat) : Int) == 124) = false := by rw [beq_eq_false_iff_ne]; omega
                      have hfin := GoesV.fin HV2.out (fun _ e => z124 (by rw [← hz, e]; rfl))
                      have HVF : Hid (GoesN s (acc.map (·.1) ++ [((3 : Int), N1, [], vs)]) (a2 + 1)) := hfin
                      have hO2 := ((Keeps.below (F := []) hbi).row HO.out (by simp)).alloc (.cells #[.int .i64 3, .string (str N1), .string (str []), .slice (some ⟨g, 0, none⟩) vs.length cp] 30)
                      have hc4 := cells_four_new wr (.int .i64 3) (.string (str N1)) (.string (str [])) (.slice (some ⟨g, 0, none⟩) vs.length cp) 30
                      have hsz2 : (wr.alloc (.cells #[.int .i64 3, .string (str N1), .string (str []), .slice (some ⟨g, 0, none⟩) vs.length cp] 30)).heap.size = wr.heap.size + 1 := by simp
                      have HO2 := Lib.hid hO2
                      have HC4 := Lib.hid hc4
                      have HUP : Hid (∀ y, SetAt wp y → SetAt (wr.alloc (.cells #[.int .i64 3, .string (str N1), .string (str []), .slice (some ⟨g, 0, none⟩) vs.length cp] 30)) y) := fun y hy => (hy.below hbi).alloc _
                      have HBX : Hid (Below w.heap.size w (wr.alloc (.cells #[.int .i64 3, .string (str N1), .string (str []), .slice (some ⟨g, 0, none⟩) vs.length cp] 30))) := (hb.trans (hbi.mono hsz)).alloc (by omega) _
                      have HSET : Hid (SetAt (wr.alloc (.cells #[.int .i64 3, .string (str N1), .string (str []), .slice (some ⟨g, 0, none⟩) vs.length cp] 30)) (((3 : Int), N1, [], vs), some ⟨g, 0, none⟩, cp)) := SetAt.alloc (row_base hrow (Nat.zero_le _)) _
                      clear hO2 hc4 hfin hrow hblk
                      go_wp2_with (at_builtin; refine wpList_append_lies _ rfl (.tmp 132) (.tmp 134) 22 rfl w.heap.size 30 i0 (.agg #[.int .i64 0, .string (str []), .string (str []), .slice none 0 0]) 4 64 Tryd.underlying22 hi0 hz0 hz1 hz2 rfl (by decide) _ acc.length _ rfl HO2.out ⟨wr.heap.size, 0, none⟩ 1 1 [.int .i64 3, .string (str N1), .string (str []), .slice (some ⟨g, 0, none⟩) vs.length cp] rfl rfl HC4.out ?c2 (by decide) ?c3 ?c4 ?c5 _ rfl ?c6)
                      case c2 => intro u hu; simp at hu; rcases hu with rfl | rfl | rfl | rfl <;> rfl
                      case c3 => unfold maxLen; omega
                      case c4 => omega
                      case c5 => rw [hsz2]; omega
                      case c6 =>
                        intro g9 cap9 w9 hown9 hg9 _ hl9
                        have hb9 : Below w.heap.size w w9 := HBX.out.grown hg9 (by rw [hsz2]; omega) hlow.out
                        have HA9 : Hid (∀ y ∈ acc ++ [(((3 : Int), N1, [], vs), some ⟨g, 0, none⟩, cp)], SetAt w9 y ∧ (0 ≤ y.1.1 ∧ y.1.1 ≤ 3) ∧ smallM y.1) := fun y hy => by
                          rcases List.mem_append.1 hy with hy | hy
                          · obtain ⟨y1, y2⟩ := HALL.out y hy
                            exact ⟨(HUP.out y y1).grown HO2.out hg9, y2⟩
                          · simp at hy
                            subst hy
                            exact ⟨SetAt.grown HSET.out HO2.out hg9, by constructor <;> simp, ⟨by show N1.length ≤ 16384; omega, by simp, by show vs.length ≤ 16384; omega, fun x hx => by have := HVS.out x hx; omega⟩⟩
                        have HO9 := Lib.hid hown9
                        clear hown9 hg9
                        go_wp2_with fail
                        go_roundw
                        case rel => exact ⟨a2 + 1, acc ++ [(((3 : Int), N1, [], vs), some ⟨g, 0, none⟩, cp)], by go_num, by omega, by omega, by simp; omega, by rw [List.length_append, matC_append]; exact HO9.out, ⟨HA9.out, by rw [List.map_append]; exact HVF.out⟩, hb9⟩
                        case measure => simp [intOf]; omega
                  · have hfin := GoesV.fin HV2.out (fun h => absurd h hl2')
                    have HVF : Hid (GoesN s (acc.map (·.1) ++ [((3 : Int), N1, [], vs)]) (a2 + 1)) := hfin
                    have hO2 := ((Keeps.below (F := []) hbi).row HO.out (by simp)).alloc (.cells #[.int .i64 3, .string (str N1), .string (str []), .slice (some ⟨g, 0, none⟩) vs.length cp] 30)
                    have hc4 := cells_four_new wr (.int .i64 3) (.string (str N1)) (.string (str [])) (.slice (some ⟨g, 0, none⟩) vs.length cp) 30
                    have hsz2 : (wr.alloc (.cells #[.int .i64 3, .string (str N1), .string (str []), .slice (some ⟨g, 0, none⟩) vs.length cp] 30)).heap.size = wr.heap.size + 1 := by simp
                    have HO2 := Lib.hid hO2
                    have HC4 := Lib.hid hc4
                    have HUP : Hid (∀ y, SetAt wp y → SetAt (wr.alloc (.cells #[.int .i64 3, .string (str N1), .string (str []), .slice (some ⟨g, 0, none⟩) vs.length cp] 30)) y) := fun y hy => (hy.below hbi).alloc _
                    have HBX : Hid (Below w.heap.size w (wr.alloc (.cells #[.int .i64 3, .string (str N1), .string (str []), .slice (some ⟨g, 0, none⟩) vs.length cp] 30))) := (hb.trans (hbi.mono hsz)).alloc (by omega) _
                    have HSET : Hid (SetAt (wr.alloc (.cells #[.int .i64 3, .string (str N1), .string (str []), .slice (some ⟨g, 0, none⟩) vs.length cp] 30)) (((3 : Int), N1, [], vs), some ⟨g, 0, none⟩, cp)) := SetAt.alloc (row_base hrow (Nat.zero_le _)) _
                    clear hO2 hc4 hfin hrow hblk
                    go_wp2_with (at_builtin; refine wpList_append_lies _ rfl (.tmp 132) (.tmp 134) 22 rfl w.heap.size 30 i0 (.agg #[.int .i64 0, .string (str []), .string (str []), .slice none 0 0]) 4 64 Tryd.underlying22 hi0 hz0 hz1 hz2 rfl (by decide) _ acc.length _ rfl HO2.out ⟨wr.heap.size, 0, none⟩ 1 1 [.int .i64 3, .string (str N1), .string (str []), .slice (some ⟨g, 0, none⟩) vs.length cp] rfl rfl HC4.out ?c2 (by decide) ?c3 ?c4 ?c5 _ rfl ?c6)
                    case c2 => intro u hu; simp at hu; rcases hu with rfl | rfl | rfl | rfl <;> rfl
                    case c3 => unfold maxLen; omega
                    case c4 => omega
                    case c5 => rw [hsz2]; omega
                    case c6 =>
                      intro g9 cap9 w9 hown9 hg9 _ hl9
                      have hb9 : Below w.heap.size w w9 := HBX.out.grown hg9 (by rw [hsz2]; omega) hlow.out
                      have HA9 : Hid (∀ y ∈ acc ++ [(((3 : Int), N1, [], vs), some ⟨g, 0, none⟩, cp)], SetAt w9 y ∧ (0 ≤ y.1.1 ∧ y.1.1 ≤ 3) ∧ smallM y.1) := fun y hy => by
                        rcases List.mem_append.1 hy with hy | hy
                        · obtain ⟨y1, y2⟩ := HALL.out y hy
                          exact ⟨(HUP.out y y1).grown HO2.out hg9, y2⟩
                        · simp at hy
                          subst hy
                          exact ⟨SetAt.grown HSET.out HO2.out hg9, by constructor <;> simp, ⟨by show N1.length ≤ 16384; omega, by simp, by show vs.length ≤ 16384; omega, fun x hx => by have := HVS.out x hx; omega⟩⟩
                      have HO9 := Lib.hid hown9
                      clear hown9 hg9
                      go_wp2_with fail
                      go_roundw
                      case rel => exact ⟨a2 + 1, acc ++ [(((3 : Int), N1, [], vs), some ⟨g, 0, none⟩, cp)], by go_num, by omega, by omega, by simp; omega, by rw [List.length_append, matC_append]; exact HO9.out, ⟨HA9.out, by rw [List.map_append]; exact HVF.out⟩, hb9⟩
                      case measure => simp [intOf]; omega
            have ty3 : (((y.toNat : Nat) : Int) == 64) = false := by rw [beq_eq_false_iff_ne]; omega
            have hkr : kindR N0 = (0, N0) := by unfold kindR; rw [hl1, if_neg (fun e => y33 (by injection e with e; rw [e]; rfl)), if_neg (fun e => y94 (by injection e with e; rw [e]; rfl)), if_neg (fun e => y64 (by injection e with e; rw [e]; rfl))]
            by_cases hQ0 : NQ = 0
            · have HZ := Lib.hid (hnoq hQ0)
              subst hQ0
              clear hstep hkr hnoq
              go_wp2_with (go_at_call 31; refine (cq _).mono ?_; rintro e w2 ⟨rfl, rfl⟩)
              go_ret2
              exact ⟨HZ.out _, hb.alloc hsz _⟩
            have tQ : ((NQ : Int) == 0) = false := by rw [beq_eq_false_iff_ne]; omega
            have hmo : matOf 0 N0 [V] = (0, N0, V, []) := by unfold matOf; rw [if_neg (by decide)]; rfl
            have hv := GoesV.one (hstep 0 N0 hkr) (by decide)
            rw [hmo] at hv
            have HV := Lib.hid hv
            have hnm : N0.length ≤ s.length := by rw [← hN0, List.length_take, List.length_drop]; omega
            clear hstep hkr hmo hv hnoq hQ0
            have hO2 := (HO.out.alloc (.cells #[.int .i64 0, .string (str N0), .string (str V), .slice none 0 0] 30)).alloc (.cells #[.int .i64 0, .string (str N0), .string (str V), .slice none 0 0] 30)
            have hc4 := cells_four_new (wp.alloc (.cells #[.int .i64 0, .string (str N0), .string (str V), .slice none 0 0] 30)) (.int .i64 0) (.string (str N0)) (.string (str V)) (.slice none 0 0) 30
            rw [show (wp.alloc (.cells #[.int .i64 0, .string (str N0), .string (str V), .slice none 0 0] 30)).heap.size = wp.heap.size + 1 by simp] at hc4
            have hsz2 : ((wp.alloc (.cells #[.int .i64 0, .string (str N0), .string (str V), .slice none 0 0] 30)).alloc (.cells #[.int .i64 0, .string (str N0), .string (str V), .slice none 0 0] 30)).heap.size = wp.heap.size + 1 + 1 := by simp
            have HO2 := Lib.hid hO2
            have HC4 := Lib.hid hc4
            have HUP : Hid (∀ y, SetAt wp y → SetAt ((wp.alloc (.cells #[.int .i64 0, .string (str N0), .string (str V), .slice none 0 0] 30)).alloc (.cells #[.int .i64 0, .string (str N0), .string (str V), .slice none 0 0] 30)) y) := fun y hy => (hy.alloc _).alloc _
            have HBX : Hid (Below w.heap.size w ((wp.alloc (.cells #[.int .i64 0, .string (str N0), .string (str V), .slice none 0 0] 30)).alloc (.cells #[.int .i64 0, .string (str N0), .string (str V), .slice none 0 0] 30))) := (hb.alloc hsz _).alloc (by simp; omega) _
            clear hO2 hc4
            go_wp2_with (first | (go_at_call 31; refine (cq _).mono ?_; rintro e w2 ⟨rfl, rfl⟩) | (at_builtin; refine wpList_append_lies _ rfl (.tmp 132) (.tmp 134) 22 rfl w.heap.size 30 i0 (.agg #[.int .i64 0, .string (str []), .string (str []), .slice none 0 0]) 4 64 Tryd.underlying22 hi0 hz0 hz1 hz2 rfl (by decide) _ acc.length _ rfl HO2.out ⟨wp.heap.size + 1, 0, none⟩ 1 1 [.int .i64 0, .string (str N0), .string (str V), .slice none 0 0] rfl rfl HC4.out ?c2 (by decide) ?c3 ?c4 ?c5 _ rfl ?c6))
            case c2 => intro u hu; simp at hu; rcases hu with rfl | rfl | rfl | rfl <;> rfl
            case c3 => unfold maxLen; omega
            case c4 => omega
            case c5 => rw [hsz2]; omega
            case c6 =>
              intro g9 cap9 w9 hown9 hg9 _ hl9
              have hb9 : Below w.heap.size w w9 := HBX.out.grown hg9 (by rw [hsz2]; omega) hlow.out
              have HA9 : Hid (∀ y ∈ acc ++ [(((0 : Int), N0, V, []), none, 0)], SetAt w9 y ∧ (0 ≤ y.1.1 ∧ y.1.1 ≤ 3) ∧ smallM y.1) := fun y hy => by
                rcases List.mem_append.1 hy with hy | hy
                · obtain ⟨y1, y2⟩ := HALL.out y hy
                  exact ⟨(HUP.out y y1).grown HO2.out hg9, y2⟩
                · simp at hy
                  subst hy
                  exact ⟨SetAt.grown (⟨rfl, .inl ⟨rfl, rfl⟩⟩ : SetAt _ (((0 : Int), N0, V, []), none, 0)) HO2.out hg9, by constructor <;> simp, ⟨by show N0.length ≤ 16384; omega, by show V.length ≤ 16384; omega, by simp, by intro x hx; simp at hx⟩⟩
              have HO9 := Lib.hid hown9
              clear hown9 hg9
              go_wp2_with fail
              go_roundw
              case rel => exact ⟨k1 + 1 + 1 + NQ + 1, acc ++ [(((0 : Int), N0, V, []), none, 0)], by go_num, by omega, by omega, by simp; omega, by rw [List.length_append, matC_append]; exact HO9.out, ⟨HA9.out, by rw [List.map_append]; exact HV.out⟩, hb9⟩
              case measure => simp [intOf]; omega
          · have t1 : (((x.toNat : Nat) : Int) != 61) = true := by
              have : (((x.toNat : Nat) : Int) == 61) = false := by rw [beq_eq_false_iff_ne]; omega
              simp [bne, this]
            have HJ2 : Hid (∀ j (hj : j < s.length), a ≤ j → j < k + 1 → (s[j]'hj).toNat ≠ 61) := by
              intro j hj h1 h2
              by_cases he : j = k
              · subst he; rw [HX.out]; exact h61
              · exact HJ.out j hj h1 (by omega)
            go_wp2_with fail
            go_roundw
            case rel => exact ⟨k + 1, by go_num, by omega, by omega, HJ2.out, by first | rfl | trivial⟩
            case measure => simp [intOf]; omega
        · obtain rfl : k = s.length := by omega
          have HZ := Lib.hid (HERR.out (HGN.out.noCut hlt (cutE_end HJ.out)))
          go_wp2_with fail
          go_ret2
          exact ⟨HZ.out _, hb⟩
    · have hun := GoesN.done HG.out.2 (by omega)
      have hl := own_mats hown rfl (fun x hx => (HG.out.1 x hx).1) (fun x hx => (HG.out.1 x hx).2.1) (fun x hx => (HG.out.1 x hx).2.2)
      have hml : (acc.map (·.1)).length = acc.length := List.length_map _
      have hsm : ∀ m ∈ acc.map (·.1), smallM m := fun m hm => by
        obtain ⟨x, hx, rfl⟩ := List.mem_map.1 hm
        exact (HG.out.1 x hx).2.2
      obtain ⟨l, hl0⟩ : ∃ l, acc.map (·.1) = l := ⟨_, rfl⟩
      rw [hl0] at hl hml hsm hun
      have cp := mrefPrint_c A acc.length cap l wp (by omega) hl hsm
      have hun' := hun
      cases hO : okMs l with
      | false =>
        have HZ := Lib.hid (HERR.out (fun L h1 h2 => by
          have := hun L h1 h2
          subst this
          rw [hO] at h1; cases h1))
        rw [hO, show eM false = 50 from rfl] at cp
        have CP := Lib.hid cp
        clear hun hun' hsm cp hl hown hO hml hl0
        go_wp2_with (go_at_call 15; refine CP.out.mono ?_; rintro e w2 ⟨rfl, hb2⟩)
        go_ret2
        exact ⟨HZ.out _, below2 hb hb2 hsz⟩
      | true =>
        rw [hO, show eM true = 0 from rfl, if_pos rfl] at cp
        by_cases hp : printM l = s
        · have HZ : Hid (∀ w', Below wp.heap.size wp w' → ParsedM s (.returned (.tuple #[.slice A acc.length cap, .int .i64 0])) w') := fun w' hw => .inr ⟨A, cap, l, by rw [hml], by rw [hml]; exact hl.below hw, hO, hp, hun⟩
          rw [hp] at cp
          have tn : (s != s) = false := by simp
          have CP := Lib.hid cp
          clear hun hun' hsm cp hl hown hO hp hml hl0
          go_wp2_with (go_at_call 15; refine CP.out.mono ?_; rintro e w2 ⟨rfl, hb2⟩)
          go_ret2
          exact ⟨HZ.out _ hb2, below2 hb hb2 hsz⟩
        · have HZ := Lib.hid (HERR.out (fun L h1 h2 => by
            have := hun L h1 h2
            subst this
            exact hp h2))
          have tn : (printM l == s) = false := by rw [beq_eq_false_iff_ne]; exact hp
          obtain ⟨Q, hQ⟩ : ∃ Q, printM l = Q := ⟨_, rfl⟩
          rw [hQ] at cp tn
          have CP := Lib.hid cp
          clear hun hun' hsm cp hl hown hO hp hml hl0 hQ
          go_wp2_with (go_at_call 15; refine CP.out.mono ?_; rintro e w2 ⟨rfl, hb2⟩)
          go_ret2
          exact ⟨HZ.out _, below2 hb hb2 hsz⟩
end Go.Proofs.YtopnnhjfcfhihaaDoor
