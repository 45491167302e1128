/-
  Layer 8 (frame): the program's Frame, next and Scan.
-/
import Derived.Test.YtfhcjlmolneooaaDoorFrameC
import Derived.Test.YtfhcjlmolneooaaDoorZigAt
namespace Go.Proofs.YtfhcjlmolneooaaDoor
open Go.RowKit Go.Deep
attribute [local go_sem] str_size str_append str_toList str_get str_extract
set_option linter.unusedVariables false
set_option linter.unusedSimpArgs false
/-- What begins at a place. -/
theorem noF_of_getT {s t : List UInt8} {a : Nat} {nx er : Int} (ha : a ≤ s.length) (h : getT s a = (t, nx, er)) (he : er ≠ 0) : NoF (s.drop a) := fun b q hb e => by
  unfold frameL at e
  have h1 := getT_tx (s.take a) (sumB b ++ q) b hb
  rw [List.length_take, Nat.min_eq_left ha, ← List.append_assoc (tx b), ← e, List.take_append_drop, h] at h1
  simp only [Prod.mk.injEq] at h1
  exact he h1.2.2
/-- Where a text stands: it is a frame just if its sum stands behind it. -/
theorem frame_at {s t : List UInt8} {a k : Nat} (ha : a ≤ k) (hk : k ≤ s.length) (h : s.take k = s.take a ++ tx t) : s.drop a = tx t ++ s.drop k := by
  have h1 := List.take_append_drop k s
  rw [h, List.append_assoc] at h1
  have h2 := List.take_append_drop a s
  rw [← h2] at h1
  have h3 : a ≤ s.length := by omega
  have := congrArg (List.drop a) h1
  have hl : (s.take a).length = a := by rw [List.length_take]; omega
  rw [h2] at h1
  have h4 := h1.trans h2.symm
  exact (List.append_cancel_left h4).symm
theorem noF_sum {s t : List UInt8} {a k : Nat} (ht : Short t) (e : s.drop a = tx t ++ s.drop k) (hp : ¬ sumB t <+: s.drop k) : NoF (s.drop a) := fun b q hb h => by
  rw [e] at h
  unfold frameL at h
  rw [List.append_assoc] at h
  obtain ⟨rfl, h2⟩ := txF_inj ht hb h
  exact hp ⟨q, h2.symm⟩
/-- s is frames in a row, the texts L, up to place a. -/
def Upto (s : List UInt8) (L : List (List UInt8)) (a : Nat) : Prop := (∀ t ∈ L, Short t) ∧ s.take a = rowF L ∧ a ≤ s.length
theorem Upto.start (s : List UInt8) : Upto s [] 0 := ⟨by simp, by simp [rowF], Nat.zero_le _⟩
theorem Upto.next {s t q : List UInt8} {L : List (List UInt8)} {a : Nat} (h : Upto s L a) (ht : Short t) (e : s.drop a = frameL t ++ q) : Upto s (L ++ [t]) (a + (frameL t).length) := by
  obtain ⟨h1, h2, h3⟩ := h
  have hl := congrArg List.length e
  rw [List.length_drop, List.length_append] at hl
  refine ⟨fun x hx => ?_, ?_, by omega⟩
  · rcases List.mem_append.1 hx with hx | hx
    · exact h1 x hx
    · simp at hx; subst hx; exact ht
  · rw [List.take_add, h2, e, List.take_left, rowF_append]; simp [rowF]
theorem Upto.scans {s : List UInt8} {L : List (List UInt8)} {a : Nat} (h : Upto s L a) (hn : NoF (s.drop a)) : Scans s L (s.drop a) :=
  ⟨h.1, by rw [← h.2.1, List.take_append_drop], hn⟩
theorem rowF_long (L : List (List UInt8)) : L.length * 3 ≤ (rowF L).length := by
  induction L with
  | nil => simp
  | cons t L ih => rw [rowF_cons, List.length_append, List.length_cons]; have := frameL_long t; omega
theorem Upto.few {s : List UInt8} {L : List (List UInt8)} {a : Nat} (h : Upto s L a) : L.length * 3 ≤ a := by
  have := rowF_long L
  rw [← h.2.1, List.length_take] at this
  omega
theorem rowF_mem (L : List (List UInt8)) : ∀ t ∈ L, t.length ≤ (rowF L).length := by
  induction L with
  | nil => intro t h; cases h
  | cons x L ih =>
    intro t h
    rw [rowF_cons, List.length_append]
    have := frameL_long x
    rcases List.mem_cons.1 h with rfl | h
    · omega
    · have := ih t h; omega
theorem seal_c (s : List UInt8) (w : World) (hs : s.length ≤ 281474976710656) (hH : Halves w) : Calls Tryd.prog 19 #[.string (str s)] w fun e w' => e = .returned (.string (str (sumB s))) ∧ Below w.heap.size w w' := by
  have C := Lib.hid (crc_c s w hs hH)
  have hc := crcL_lt s
  obtain ⟨c, hcc⟩ : ∃ c, crcL s = c := ⟨_, rfl⟩
  have hsum : sumB s = [UInt8.ofNat (c / 256), UInt8.ofNat (c % 256)] := by unfold sumB; rw [hcc]
  rw [hcc] at hc C
  have HS := Lib.hid hsum
  obtain ⟨p, hp⟩ : ∃ p, c / 256 = p := ⟨_, rfl⟩
  obtain ⟨q, hq⟩ : ∃ q, c % 256 = q := ⟨_, rfl⟩
  rw [hp, hq] at HS
  have d1 : (c : Int) / 256 = (p : Int) := by omega
  have d2 : IntKind.u8.wrap (c : Int) = (q : Int) := by rw [IntKind.wrap_u8]; omega
  have d3 : IntKind.u8.wrap (p : Int) = (p : Int) := by rw [IntKind.wrap_u8]; omega
  have hcv := fun W => conv_two (P := Tryd.prog) 32 9 5 Tryd.underlying32 Tryd.underlying5 Tryd.underlying9 W p q
  simp only [Int.toNat_natCast] at hcv
  clear hcc hsum hp hq
  go_enter Tryd.func19, Tryd.ntmps19
  go_wp2_with (go_at_call 9; refine C.out.mono ?_; rintro e w1 ⟨rfl, rfl⟩; dsimp only)
  go_ret
  exact ⟨ret_str HS.out.symm, (Below.refl _ _).alloc (Nat.le_refl _) _⟩
theorem frame_c (s : List UInt8) (w : World) (hs : s.length ≤ 281474976710656) (hH : Halves w) : Calls Tryd.prog 11 #[.string (str s)] w fun e w' => e = .returned (.string (str (frameL s))) ∧ Below w.heap.size w w' := by
  have C1 := Lib.hid (fun W => text_c s W (by omega))
  have C2 := Lib.hid (fun W (hW : Below w.heap.size w W) => seal_c s W hs (hH.below hW))
  have hl := tx_len s (by omega)
  have hl2 := sumB_len s
  obtain ⟨T, hT⟩ : ∃ T, tx s = T := ⟨_, rfl⟩
  obtain ⟨M, hM⟩ : ∃ M, sumB s = M := ⟨_, rfl⟩
  have HF : Hid (T ++ M = frameL s) := by show _ = _; rw [← hT, ← hM]; rfl
  rw [hT] at hl C1
  rw [hM] at hl2 C2
  clear hT hM
  go_enter Tryd.func11, Tryd.ntmps11
  go_wp2_with (first
    | (go_at_call 18; refine (C1.out _).mono ?_; rintro e w1 ⟨rfl, hb1⟩; dsimp only)
    | (go_at_call 19; refine (C2.out _ hb1).mono ?_; rintro e w2 ⟨rfl, hb2⟩; dsimp only))
  go_ret
  exact ⟨ret_str HF.out, below2 hb1 hb2 hb1.size⟩
/-- What next answers. -/
def NextF (s : List UInt8) (a : Nat) (e : Ending) : Prop :=
  (e = .returned (.tuple #[.string (str []), .int .i64 0, .bool false]) ∧ NoF (s.drop a)) ∨
  ∃ t q, e = .returned (.tuple #[.string (str t), .int .i64 ((a + (frameL t).length : Nat) : Int), .bool true]) ∧ Short t ∧ s.drop a = frameL t ++ q
theorem next_c (s : List UInt8) (a : Nat) (w : World) (hs : s.length ≤ 1000000) (ha : a ≤ s.length) (hH : Halves w) :
    Calls Tryd.prog 21 #[.string (str s), .int .i64 a] w fun e w' => NextF s a e ∧ Below w.heap.size w w' := by
  obtain ⟨t, nx, er, hg⟩ : ∃ t nx er, getT s a = (t, nx, er) := ⟨_, _, _, rfl⟩
  have C1 := Lib.hid (fun W => getText_c s a t nx er W (by omega) (by omega) (by omega) hg)
  by_cases he : er = 0
  · subst he
    obtain ⟨k, rfl, k1, k2, k3⟩ := getT_at hg
    have e1 := frame_at k1 k2 k3
    have htl : t.length ≤ 1000000 := by
      have := congrArg List.length e1
      have h2 := tx_long t
      rw [List.length_drop, List.length_append] at this
      omega
    have ht : Short t := by show _ < _; omega
    have C2 := Lib.hid (fun W (hW : Below w.heap.size w W) => seal_c t W (by omega) (hH.below hW))
    have hl2 := sumB_len t
    have hfl : k + 2 = a + (frameL t).length := by
      have := congrArg List.length k3
      rw [List.length_append, List.length_take, List.length_take] at this
      rw [frameL_len]; omega
    obtain ⟨M, hM⟩ : ∃ M, sumB t = M := ⟨_, rfl⟩
    obtain ⟨D, hD⟩ : ∃ D, s.drop k = D := ⟨_, rfl⟩
    have cp := fun W => Tryd.strings_HasPrefix (str D) (str M) W
    rw [str_data, str_data] at cp
    have hx : (s.drop k).take (s.length - k) = D := by rw [← hD]; exact List.take_of_length_le (by rw [List.length_drop]; omega)
    have k2 : k ≤ s.length := k2
    by_cases hp : M <+: D
    · have hpre : Lib.hasPrefix D M = true := by unfold Lib.hasPrefix; exact List.isPrefixOf_iff_prefix.2 hp
      obtain ⟨q, hq⟩ := hp
      have e2 : s.drop a = frameL t ++ q := by rw [e1, hD, ← hq, ← hM, frameL, List.append_assoc]
      have HE := Lib.hid e2
      have HT := Lib.hid ht
      have hfl : (k : Int) + 2 = ((a + (frameL t).length : Nat) : Int) := by omega
      obtain ⟨K, hK⟩ : ∃ K, a + (frameL t).length = K := ⟨_, rfl⟩
      rw [hK] at hfl
      have HK := Lib.hid hK
      have hM2 : M.length = 2 := by rw [← hM]; exact hl2
      rw [hpre] at cp
      rw [hM] at C2
      have CP := Lib.hid cp
      clear e1 e2 hD hq hM hl2 hpre cp hK k3 hg ht htl
      go_enter Tryd.func21, Tryd.ntmps21
      go_wp2_with (first
        | (go_at_call 25; refine (C1.out _).mono ?_; rintro e w1 ⟨rfl, hb1⟩; dsimp only)
        | (go_at_call 19; refine (C2.out _ hb1).mono ?_; rintro e w2 ⟨rfl, hb2⟩; dsimp only)
        | (go_at_call 26; refine (CP.out _).mono ?_; rintro e w3 ⟨rfl, rfl⟩; dsimp only))
      go_ret3
      exact ⟨.inr ⟨t, q, by rw [HK.out]; rfl, HT.out, HE.out⟩, below2 hb1 hb2 hb1.size⟩
    · have hpre : Lib.hasPrefix D M = false := by
        unfold Lib.hasPrefix
        cases h : M.isPrefixOf D with
        | false => rfl
        | true => exact absurd (List.isPrefixOf_iff_prefix.1 h) hp
      have hn := noF_sum ht e1 (by rw [hM, hD]; exact hp)
      have HN := Lib.hid hn
      rw [hpre] at cp
      rw [hM] at C2
      have CP := Lib.hid cp
      clear e1 hD hp hM hl2 hpre cp k3 hg ht htl hn hfl
      go_enter Tryd.func21, Tryd.ntmps21
      go_wp2_with (first
        | (go_at_call 25; refine (C1.out _).mono ?_; rintro e w1 ⟨rfl, hb1⟩; dsimp only)
        | (go_at_call 19; refine (C2.out _ hb1).mono ?_; rintro e w2 ⟨rfl, hb2⟩; dsimp only)
        | (go_at_call 26; refine (CP.out _).mono ?_; rintro e w3 ⟨rfl, rfl⟩; dsimp only))
      go_ret3
      exact ⟨.inl ⟨rfl, HN.out⟩, below2 hb1 hb2 hb1.size⟩
  · have hn := noF_of_getT ha hg he
    have HN := Lib.hid hn
    have t1 : (er != 0) = true := by simpa using he
    clear hn he hg
    go_enter Tryd.func21, Tryd.ntmps21
    go_wp2_with (go_at_call 25; refine (C1.out _).mono ?_; rintro e w1 ⟨rfl, hb1⟩; dsimp only)
    go_ret3
    exact ⟨.inl ⟨rfl, HN.out⟩, hb1⟩
theorem next_some (s : List UInt8) (a : Nat) (w : World) (hs : s.length ≤ 1000000) (ha : a ≤ s.length) (hH : Halves w) {t q : List UInt8} (ht : Short t) (he : s.drop a = frameL t ++ q) :
    Calls Tryd.prog 21 #[.string (str s), .int .i64 a] w fun e w' => e = .returned (.tuple #[.string (str t), .int .i64 ((a + (frameL t).length : Nat) : Int), .bool true]) ∧ Below w.heap.size w w' := by
  refine (next_c s a w hs ha hH).mono ?_
  rintro e w' ⟨⟨_, h⟩ | ⟨t', q', rfl, ht', he'⟩, hb⟩
  · exact absurd he (h t q ht)
  · rw [he] at he'
    obtain ⟨rfl, _⟩ := frameL_inj ht ht' he'
    exact ⟨rfl, hb⟩
theorem next_none (s : List UInt8) (a : Nat) (w : World) (hs : s.length ≤ 1000000) (ha : a ≤ s.length) (hH : Halves w) (hn : NoF (s.drop a)) :
    Calls Tryd.prog 21 #[.string (str s), .int .i64 a] w fun e w' => e = .returned (.tuple #[.string (str []), .int .i64 0, .bool false]) ∧ Below w.heap.size w w' := by
  refine (next_c s a w hs ha hH).mono ?_
  rintro e w' ⟨⟨rfl, _⟩ | ⟨t', q', rfl, ht', he'⟩, hb⟩
  · exact ⟨rfl, hb⟩
  · exact absurd he' (hn t' q' ht')
/-- What Scan answers. -/
def ScanF (s : List UInt8) (B : Nat) (e : Ending) (w' : World) : Prop :=
  ∃ v L r, e = .returned (.tuple #[v, .int .i64 ((s.length - r.length : Nat) : Int)]) ∧ Scans s L r ∧ NewT B v L w'
theorem scan_c (s : List UInt8) (w : World) (hs : s.length ≤ 1000000) (hH : Halves w) :
    Calls Tryd.prog 13 #[.string (str s)] w fun e w' => ScanF s w.heap.size e w' ∧ Below w.heap.size w w' := by
  go_enter Tryd.func13, Tryd.ntmps13
  go_wp2_with fail
  go_loopw [4, 5] (fun v c wr => ∃ (a : Nat) (L : List Byts) (A : Option Addr) (cap : Nat), c = .int .i64 a ∧ v = .slice A L.length cap ∧ a ≤ s.length ∧ Hid (NewT w.heap.size (.slice A L.length cap) L wr) ∧ Hid (Upto s L a) ∧ Below w.heap.size w wr) (fun _ c _ => s.length - (intOf c).toNat)
  case atStart => exact ⟨0, [], none, 0, rfl, rfl, Nat.zero_le _, NewT.nil _ _, Upto.start s, Below.refl _ _⟩
  case round =>
    obtain ⟨a, L, A, cap, rfl, rfl, ha, HN, HU, hb⟩ := hrel
    have hbs := hb.size
    have hfew := HU.out.few
    by_cases hex : ∃ t q, Short t ∧ s.drop a = frameL t ++ q
    · obtain ⟨t, q, ht, he⟩ := hex
      have CN := Lib.hid (fun W (hW : Below w.heap.size w W) => next_some s a W hs ha (hH.below hW) ht he)
      have hnu := HU.out.next ht he
      have hkl := hnu.2.2
      have hpos := frameL_long t
      have htl : t.length ≤ 9223372036854775807 := by omega
      obtain ⟨K, hK⟩ : ∃ K, a + (frameL t).length = K := ⟨_, rfl⟩
      rw [hK] at hnu CN hkl
      have haK : a < K := by omega
      have HNU := Lib.hid hnu
      clear hnu he ht hpos hK
      go_wp2_with (first
        | (go_at_call 21; refine (CN.out _ hb).mono ?_; rintro e w1 ⟨rfl, hb1⟩; have hb2 := below2 hb hb1 hbs; have hb2s := hb2.size; have HN2 := Lib.hid (HN.out.below hb1); dsimp only)
        | (at_builtin; refine app_txt rfl (.tmp 20) (.tmp 22) rfl rfl HN2.out t rfl rfl htl (by omega) hb2s ?c1))
      case c1 =>
        intro A3 cap3 w3 L3 HL hN3 hb3
        have hb4 := hb2.trans hb3
        have HN3 := Lib.hid hN3
        clear hN3
        go_wp2_with fail
        go_roundw
        case rel => exact ⟨K, L3, A3, cap3, rfl, rfl, hkl, HN3.out, by show Upto _ _ _; rw [HL.out]; exact HNU.out, hb4⟩
        case measure => simp [intOf]; omega
    · have hn : NoF (s.drop a) := fun t q ht e => hex ⟨t, q, ht, e⟩
      have CN := Lib.hid (fun W (hW : Below w.heap.size w W) => next_none s a W hs ha (hH.below hW) hn)
      have HS := Lib.hid (HU.out.scans hn)
      have hlen : s.length - (s.drop a).length = a := by rw [List.length_drop]; omega
      have HL := Lib.hid hlen
      clear hex hn hlen
      go_wp2_with (first
        | (go_at_call 21; refine (CN.out _ hb).mono ?_; rintro e w1 ⟨rfl, hb1⟩; have hb2 := below2 hb hb1 hbs; have hb2s := hb2.size; have HN2 := Lib.hid (HN.out.below hb1); dsimp only))
      go_ret2
      exact ⟨⟨_, L, _, by rw [HL.out]; rfl, HS.out, HN2.out⟩, hb2⟩
end Go.Proofs.YtfhcjlmolneooaaDoor
