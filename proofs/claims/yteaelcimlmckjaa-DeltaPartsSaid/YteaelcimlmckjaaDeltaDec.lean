/-
  Layer 3 (delta): the program's Decode.
-/
import Derived.Test.YteaelcimlmckjaaDeltaTold
import Derived.Test.YteaelcimlmckjaaDeltaEncB
namespace Go.Proofs.Yteaelcimlmckjaa
open Go.RowKit Go.Deep
attribute [local go_sem] Oper.semAt_some
attribute [local go_sem] str_size str_append str_toList str_get str_extract
set_option linter.unusedVariables false
set_option linter.unusedSimpArgs false

theorem smp_info : (Try.prog.info? 34).map (fun i => (i.zero, i.size, i.bytes)) = some (some (.agg #[.int .i64 0, .int .i64 0]), 2, 16) := by kernel_rfl
/-- The cells of samples. -/
def smpC : List Smp → List Value
  | [] => []
  | s :: l => .int .i64 s.1 :: .int .i64 s.2 :: smpC l
theorem smpC_append (l m : List Smp) : smpC (l ++ m) = smpC l ++ smpC m := by
  induction l with
  | nil => rfl
  | cons s l ih => simp [smpC, ih]
theorem smpC_length (l : List Smp) : (smpC l).length = 2 * l.length := by
  induction l with
  | nil => rfl
  | cons s l ih => simp [smpC, ih]; omega
theorem smpC_get (l : List Smp) : ∀ i (h : i < l.length), (smpC l)[2 * i]? = some (.int .i64 l[i].1) ∧ (smpC l)[2 * i + 1]? = some (.int .i64 l[i].2) := by
  induction l with
  | nil => intro i h; simp at h
  | cons s l ih =>
    intro i h
    cases i with
    | zero => exact ⟨rfl, rfl⟩
    | succ i =>
      have := ih i (by simpa using h)
      simp only [smpC, List.getElem_cons_succ, show 2 * (i + 1) = 2 * i + 1 + 1 by omega, List.getElem?_cons_succ]
      exact this
/-- The state of the loop behind some numbers. -/
def stG (t v d : Int) : List (Nat × Nat) → Int × Int × Int
  | [] => (t, v, d)
  | x :: ps => stG (wrap64 (t + wrap64 (d + unfold x.1))) (wrap64 (v + unfold x.2)) (wrap64 (d + unfold x.1)) ps
theorem stG_snoc (x : Nat × Nat) (ps : List (Nat × Nat)) : ∀ (t v d : Int), stG t v d (ps ++ [x]) = (wrap64 ((stG t v d ps).1 + wrap64 ((stG t v d ps).2.2 + unfold x.1)), wrap64 ((stG t v d ps).2.1 + unfold x.2), wrap64 ((stG t v d ps).2.2 + unfold x.1)) := by
  induction ps with
  | nil => intro t v d; rfl
  | cons y ps ih => intro t v d; simp only [List.cons_append, stG]; rw [ih]
theorem lenG_snoc (x : Nat × Nat) (ps : List (Nat × Nat)) : ∀ (t v d : Int), lenG t v d (ps ++ [x]) = lenG t v d ps ++ [((stG t v d (ps ++ [x])).1, (stG t v d (ps ++ [x])).2.1)] := by
  induction ps with
  | nil => intro t v d; rfl
  | cons y ps ih => intro t v d; simp only [List.cons_append, lenG, stG]; rw [ih]
theorem lenG_length (ps : List (Nat × Nat)) : ∀ (t v d : Int), (lenG t v d ps).length = ps.length := by
  induction ps with
  | nil => intro t v d; rfl
  | cons y ps ih => intro t v d; simp [lenG, ih]
theorem stG_range (ps : List (Nat × Nat)) : ∀ (t v d : Int), -9223372036854775808 ≤ t → t ≤ 9223372036854775807 → -9223372036854775808 ≤ v → v ≤ 9223372036854775807 → -9223372036854775808 ≤ d → d ≤ 9223372036854775807 →
    (-9223372036854775808 ≤ (stG t v d ps).1 ∧ (stG t v d ps).1 ≤ 9223372036854775807) ∧ (-9223372036854775808 ≤ (stG t v d ps).2.1 ∧ (stG t v d ps).2.1 ≤ 9223372036854775807) ∧ -9223372036854775808 ≤ (stG t v d ps).2.2 ∧ (stG t v d ps).2.2 ≤ 9223372036854775807 := by
  induction ps with
  | nil => intro t v d h1 h2 h3 h4 h5 h6; exact ⟨⟨h1, h2⟩, ⟨h3, h4⟩, h5, h6⟩
  | cons y ps ih =>
    intro t v d h1 h2 h3 h4 h5 h6
    have a := wrap_range (t + wrap64 (d + unfold y.1))
    have b := wrap_range (v + unfold y.2)
    have c := wrap_range (d + unfold y.1)
    exact ih _ _ _ a.1 a.2 b.1 b.2 c.1 c.2
theorem toldL_lt (a b : Nat) (m : Nat) : ∀ (l : List Bool) (x : Nat × Nat), x ∈ toldL a b m l → x.1 < 18446744073709551616 ∧ x.2 < 18446744073709551616 := by
  induction m with
  | zero => intro l x hx; simp [toldL] at hx
  | succ m ih =>
    intro l x hx
    unfold toldL at hx
    split at hx
    · cases hx
    · split at hx
      · cases hx
      · rcases List.mem_cons.1 hx with rfl | hx
        · exact ⟨decV_lt _ _, decV_lt _ _⟩
        · exact ih _ x hx
theorem toldS_lt {s : List UInt8} {m : Nat} {x : Nat × Nat} (hx : x ∈ toldS s m) : x.1 < 18446744073709551616 ∧ x.2 < 18446744073709551616 := by
  unfold toldS at hx
  split at hx
  · cases hx
  · exact toldL_lt _ _ _ _ _ hx
theorem toldL_len (a b : Nat) (m : Nat) : ∀ (l : List Bool), (toldL a b m l).length ≤ m := by
  induction m with
  | zero => intro l; simp [toldL]
  | succ m ih =>
    intro l
    unfold toldL
    split
    · simp
    · split
      · simp
      · have := ih (l.drop (decN l a + decN (l.drop (decN l a)) b))
        simp; omega
theorem toldS_len (s : List UInt8) (m : Nat) : (toldS s m).length ≤ m := by
  unfold toldS
  split
  · simp
  · exact toldL_len _ _ _ _
theorem cell_two_new (w : World) (x y : Value) (t : TypeId) : ∀ j u, [x, y][j]? = some u → (w.alloc (.cells #[x, y] t)).cell? ((⟨w.heap.size, 0, none⟩ : Addr).add j) = some u := by
  intro j u hv
  match j, hv with
  | 0, hv => simp at hv; subst hv; simp [Addr.add, World.cell?_alloc_mark]
  | 1, hv => simp at hv; subst hv; simp [Addr.add, World.cell?_alloc_mark]
  | j + 2, hv => simp at hv
set_option maxRecDepth 100000 in
set_option maxHeartbeats 4000000 in
theorem lengthen_c (t v : Int) (s : List UInt8) (m : Nat) (w : World) (hs : s.length ≤ 281474976710656) (hm : m ≤ 5000) (ht1 : -9223372036854775808 ≤ t) (ht2 : t ≤ 9223372036854775807) (hv1 : -9223372036854775808 ≤ v) (hv2 : v ≤ 9223372036854775807) :
    Calls Try.prog 33 #[.agg #[.int .i64 t, .int .i64 v], .string (str s), .int .i64 (m : Int)] w fun e w' =>
      (∃ A cap, e = .returned (.slice A ((toldS s m).length + 1) cap) ∧ w'.ownsRow w.heap.size 34 2 (.slice A ((toldS s m).length + 1) cap) ((toldS s m).length + 1) (smpC ((t, v) :: lenG t v 0 (toldS s m)))) ∧ Below w.heap.size w w' := by
  obtain ⟨i0, hi0, hz0, hz1, hz2⟩ := info_parts smp_info
  have hlen := toldS_len s m
  obtain ⟨XS, hXS⟩ : ∃ XS, toldS s m = XS := ⟨_, rfl⟩
  have hlt := fun x (hx : x ∈ toldS s m) => toldS_lt hx
  rw [hXS] at hlt hlen ⊢
  have HXS := Lib.hid hXS
  clear hXS
  refine (callsIn_wide (n := 4)).1 (callsIn_of_wp_marks Try.func33 rfl trivial ?_ rfl)
  simp only [Try.ntmps33, List.size_toArray, List.length_cons, List.length_nil, Nat.reduceAdd, Nat.reduceSub, Array.replicate_succ, Array.replicate_zero, List.push_toArray, List.append_toArray, List.nil_append, List.cons_append]
  refine wpIn_wide.2 ?_
  go_wp2_with fail
  refine (told_c _ _ _).mono ?_
  rintro e w' ⟨rfl, rfl⟩
  go_wp2_with fail
  have f0 := blk_new w (.cells #[.int .i64 t, .int .i64 v] 34)
  obtain ⟨Wa, hWa⟩ : ∃ W, w.alloc (.cells #[.int .i64 t, .int .i64 v] 34) = W := ⟨_, rfl⟩
  have sa : Wa.heap.size = w.heap.size + 1 := by rw [← hWa]; simp
  have f1 := blk_new Wa (.cells #[.int .i64 t, .int .i64 v] 34)
  have hbA : Below w.heap.size w Wa := by rw [← hWa]; exact (Below.refl _ w).alloc (Nat.le_refl _) _
  rw [hWa] at f0 ⊢
  have f0 := blk_alloc f0 (.cells #[.int .i64 t, .int .i64 v] 34)
  have hbB := hbA.alloc (by omega) (.cells #[.int .i64 t, .int .i64 v] 34)
  obtain ⟨Wb, hWb⟩ : ∃ W, Wa.alloc (.cells #[.int .i64 t, .int .i64 v] 34) = W := ⟨_, rfl⟩
  have sb : Wb.heap.size = w.heap.size + 1 + 1 := by rw [← hWb, ← sa]; simp
  rw [hWb] at f0 f1 hbB ⊢
  rw [sa] at f1
  obtain ⟨O1, hO1⟩ : ∃ O : Obj, O = .cells #[.slice (some ⟨w.heap.size + 1, 0, none⟩) 1 1] 22 := ⟨_, rfl⟩
  obtain ⟨O2, hO2⟩ : ∃ O : Obj, O = .cells #[.int .i64 0] 3 := ⟨_, rfl⟩
  obtain ⟨O3, hO3⟩ : ∃ O : Obj, O = .cells #[.string (str s)] 9 := ⟨_, rfl⟩
  obtain ⟨O4, hO4⟩ : ∃ O : Obj, O = .cells #[.int .i64 (m : Int)] 3 := ⟨_, rfl⟩
  have f2 := blk_new Wb O1
  have f3 := blk_new (Wb.alloc O1) O2
  have f4 := blk_new ((Wb.alloc O1).alloc O2) O3
  have f5 := blk_new (((Wb.alloc O1).alloc O2).alloc O3) O4
  have f0 := (((blk_alloc f0 O1 |> fun h => blk_alloc h O2) |> fun h => blk_alloc h O3) |> fun h => blk_alloc h O4)
  have f1 := (((blk_alloc f1 O1 |> fun h => blk_alloc h O2) |> fun h => blk_alloc h O3) |> fun h => blk_alloc h O4)
  have f2 := ((blk_alloc f2 O2 |> fun h => blk_alloc h O3) |> fun h => blk_alloc h O4)
  have f3 := (blk_alloc f3 O3 |> fun h => blk_alloc h O4)
  have f4 := blk_alloc f4 O4
  have hbW := (((hbB.alloc (by omega) O1).alloc (by simp; omega) O2).alloc (by simp; omega) O3).alloc (by simp; omega) O4
  have hsz : ((((Wb.alloc O1).alloc O2).alloc O3).alloc O4).heap.size = w.heap.size + 6 := by simp; omega
  simp only [World.size_alloc, sb] at f2 f3 f4 f5
  rw [← hO1, ← hO2, ← hO3, ← hO4]
  generalize (((Wb.alloc O1).alloc O2).alloc O3).alloc O4 = W0 at *
  rw [hO1] at f2
  rw [hO2] at f3
  rw [hO3] at f4
  rw [hO4] at f5
  clear hO1 hO2 hO3 hO4 hWb hWa sa sb hbA hbB
  have hseq := told1_tells (4 - 1) w.heap.size (w.heap.size + 1 + 1 + 1 + 1) (w.heap.size + 1 + 1 + 1 + 1 + 1) (by omega) [w.heap.size, w.heap.size + 1 + 1, w.heap.size + 1 + 1 + 1] s m W0 hs hm f4 f5 (by simp; omega) (fun f hf => by simp at hf; omega) (by omega)
  rw [HXS.out] at hseq
  refine wpIn_wide.1 (loop_tells (n := 4) rfl (by omega) (gf := 58) (lb := #[.pointer (some ⟨w.heap.size + 1 + 1 + 1 + 1, 0, none⟩), .pointer (some ⟨w.heap.size + 1 + 1 + 1 + 1 + 1, 0, none⟩)]) rfl trivial (enters_of Try.func58 (by kernel_rfl) rfl)
    hseq (Below.refl _ _) (fun _ => rfl) (fun o h => by cases o <;> first | rfl | cases h) (fun h k => h.trans k) (fun W k o o' hk h hb => Spared.book (by omega) W k o o' hk h hb)
    (fun pre W => (∃ A cap, Boxed W (w.heap.size + 1 + 1) 22 (.slice A (pre.length + 1) cap) ∧ W.ownsRow w.heap.size 34 2 (.slice A (pre.length + 1) cap) (pre.length + 1) (smpC ((t, v) :: lenG t v 0 pre)) ∧ Value.ownBlock (.slice A (pre.length + 1) cap) ≠ some w.heap.size) ∧
      W.heap[w.heap.size]? = some (.cells #[.int .i64 (stG t v 0 pre).1, .int .i64 (stG t v 0 pre).2.1] 34 (0, 0)) ∧ Boxed W (w.heap.size + 1 + 1 + 1) 3 (.int .i64 (stG t v 0 pre).2.2) ∧ Below w.heap.size w W) ?bears ?start
    (fun x => { tmps := #[.agg #[.int .i64 t, .int .i64 v], .string (str s), .int .i64 (m : Int), .pointer (some ⟨w.heap.size, 0, none⟩), undef, undef, .slice none 0 0, .pointer (some ⟨w.heap.size + 1 + 1, 0, none⟩), .pointer (some ⟨w.heap.size + 1 + 1 + 1, 0, none⟩), .int .u64 (x.1 : Int), .int .u64 (x.2 : Int), .agg #[.int .i64 t, .int .i64 v], .slice (some ⟨w.heap.size + 1, 0, none⟩) 1 1, .string (str s), .int .i64 (m : Int), .func (.func 58) #[] #[.pointer (some ⟨w.heap.size + 1 + 1 + 1 + 1, 0, none⟩), .pointer (some ⟨w.heap.size + 1 + 1 + 1 + 1 + 1, 0, none⟩)], .int .u64 (x.1 : Int), .int .u64 (x.2 : Int), undef, undef, undef, undef, undef, undef, undef, undef, undef, undef, undef, undef, undef, undef, undef, undef, undef, undef, undef, undef], defers := [] }) ?assign ?body ?done)
  case bears =>
    rintro y X Y G ⟨⟨A, cap, b1, r1, hne⟩, hh, b2, hb⟩ hK hG
    have hnr : ∀ {k : Nat} {cs : Array Value} {ty : TypeId}, X.heap[k]? = some (.cells cs ty (0, 0)) → ty ≠ 94 → k ∉ G := fun h hty => not_book h hG (by simp [isReader, bookObj, hty])
    refine ⟨⟨A, cap, box_keeps b1 hK (hnr b1 (by decide)), hK.row r1 (fun k hk => ?_), hne⟩, hK.block hh (hnr hh (by decide)), box_keeps b2 hK (hnr b2 (by decide)), hb.trans (hK.to (by have := hb.size; omega) (fun f hf => by have := (hG f hf).1; omega))⟩
    obtain ⟨cs, hc⟩ := row_block r1 hk
    exact hnr hc (by decide)
  case start =>
    exact ⟨⟨_, 1, f2, ⟨by simp [smpC, lenG], .inr ⟨_, 1, _, rfl, by omega, f1, Nat.le_refl _, by decide, rfl, rfl⟩⟩, by simp [Value.ownBlock]⟩, f0, f3, hbW⟩
  case assign =>
    intro l x W K hK
    dsimp only [encP]
    gi_wp2
    exact hK
  case body =>
    rintro l pre x rest W hx ⟨⟨A, cap, b1, r1, hne⟩, hh, b2, hb⟩
    have hmem : x ∈ XS := by rw [hx]; simp
    obtain ⟨hx1, hx2⟩ := hlt x hmem
    have hpl : pre.length < m := by
      have h := congrArg List.length hx
      simp at h; omega
    have hrg := stG_range pre t v 0 ht1 ht2 hv1 hv2 (by omega) (by omega)
    have hsn := stG_snoc x pre t v 0
    have hln := lenG_snoc x pre t v 0
    have hll := lenG_length pre t v 0
    obtain ⟨st, hst⟩ : ∃ st, stG t v 0 pre = st := ⟨_, rfl⟩
    rw [hst] at hrg hsn hh b2
    obtain ⟨T, V, d⟩ := st
    obtain ⟨u1, hu1⟩ : ∃ u, unfold (x.1 : Int) = u := ⟨_, rfl⟩
    obtain ⟨u2, hu2⟩ : ∃ u, unfold (x.2 : Int) = u := ⟨_, rfl⟩
    rw [hu1, hu2] at hsn
    simp only at hrg hsn hh b2
    obtain ⟨D2, hD2⟩ : ∃ D, wrap64 (d + u1) = D := ⟨_, rfl⟩
    rw [hD2] at hsn
    obtain ⟨T2, hT2⟩ : ∃ D, wrap64 (T + D2) = D := ⟨_, rfl⟩
    obtain ⟨V2, hV2⟩ : ∃ D, wrap64 (V + u2) = D := ⟨_, rfl⟩
    rw [hT2, hV2] at hsn
    rw [hsn] at hln
    have sD : IntKind.i64.wrap (d + u1) = D2 := by rw [← hD2, IntKind.wrap_i64]; unfold wrap64; omega
    have sT : IntKind.i64.wrap (T + D2) = T2 := by rw [← hT2, IntKind.wrap_i64]; unfold wrap64; omega
    have sV : IntKind.i64.wrap (V + u2) = V2 := by rw [← hV2, IntKind.wrap_i64]; unfold wrap64; omega
    have U1 := Lib.hid (fun W => unfold_c x.1 W hx1)
    have U2 := Lib.hid (fun W => unfold_c x.2 W hx2)
    have HS := Lib.hid (And.intro hsn hln)
    have hbs := hb.size
    have c8 := b2.cell
    have g8 := b2.frozen
    have HB := Lib.hid (And.intro b1 (And.intro r1 (And.intro hne (And.intro hh (And.intro b2 hb)))))
    clear hst hD2 hT2 hV2 hsn hln hrg hmem b1 r1 hne hh b2 hb hx1 hx2 f0 f1 f2 f3 f4 f5 hbW hseq hx hlt
    gi_wp2_with fail
    refine wpIn_mono (Q := OnlyN fun a' w' => a' = { tmps := #[.agg #[.int .i64 t, .int .i64 v], .string (str s), .int .i64 (m : Int), .pointer (some ⟨w.heap.size, 0, none⟩), undef, undef, .slice none 0 0, .pointer (some ⟨w.heap.size + 1 + 1, 0, none⟩), .pointer (some ⟨w.heap.size + 1 + 1 + 1, 0, none⟩), .int .u64 (x.1 : Int), .int .u64 (x.2 : Int), .agg #[.int .i64 t, .int .i64 v], .slice (some ⟨w.heap.size + 1, 0, none⟩) 1 1, .string (str s), .int .i64 (m : Int), .func (.func 58) #[] #[.pointer (some ⟨w.heap.size + 1 + 1 + 1 + 1, 0, none⟩), .pointer (some ⟨w.heap.size + 1 + 1 + 1 + 1 + 1, 0, none⟩)], .int .u64 (x.1 : Int), .int .u64 (x.2 : Int), .int .i64 d, .int .u64 (x.1 : Int), .int .i64 u1, .int .i64 D2, undef, undef, undef, undef, undef, undef, undef, undef, undef, undef, undef, undef, undef, undef, undef, undef], defers := [] } ∧ w' = W.drew.setCell ⟨w.heap.size + 1 + 1 + 1, 0, none⟩ (.int .i64 D2)) ?reg6 (only_imp ?rest6)
    case reg6 =>
      refine region_heldIn (S := fun _ => True ∧ True) (by kernel_rfl) ⟨trivial, trivial⟩ (fun hHeld => ?_)
      refine heldIn_w (fun _ => trivial) (by kernel_rfl) (i := 1) (d := some 19) (v := ?_) rfl (by kernel_rfl) (by kernel_rfl) (by kernel_rfl) (fun _ _ _ h => h) (by rfl) ?_ hHeld ?_
      rotate_left
      · intro w' hSw; obtain ⟨q0, q1⟩ := hSw; simp only [List.getElem?_toArray, List.getElem?_cons_zero, List.getElem?_cons_succ]; go_simp; try with_reducible rfl
      try simp only [Act.put, List.setIfInBounds_toArray, List.set_cons_zero, List.set_cons_succ]
      refine heldIn_many (fun _ => trivial) (by kernel_rfl) (rs := [0, 2]) (by kernel_rfl) (by simp) ⟨?_, ?_, trivial⟩
      · refine ⟨by rfl, fun K hK => ?_⟩
        simp only [List.getElem?_toArray, List.getElem?_cons_zero, List.getElem?_cons_succ]
        go_simp
        refine hK.out _ _ ⟨trivial, trivial⟩ (fun hHeld => ?_)
        clear hK K
        try simp only [Act.put, List.setIfInBounds_toArray, List.set_cons_zero, List.set_cons_succ]
        refine heldIn_c (fun _ => trivial) (by kernel_rfl) (i := 2) (by kernel_rfl) (by rfl) (fun K hK => ?_)
        simp only [List.getElem?_toArray, List.getElem?_cons_zero, List.getElem?_cons_succ]
        go_simp
        refine (CallsIn.inRound l (callsIn_wide.2 (U1.out _))).mono ?_
        rintro e w' ⟨rfl, rfl⟩
        rw [hu1]
        refine hK.out _ _ ⟨trivial, trivial⟩ (fun hHeld => ?_)
        clear hK K
        try simp only [Act.put, List.setIfInBounds_toArray, List.set_cons_zero, List.set_cons_succ]
        refine heldIn_w (fun _ => trivial) (by kernel_rfl) (i := 3) (d := some 21) (v := ?_) rfl (by kernel_rfl) (by kernel_rfl) (by kernel_rfl) (fun _ _ _ h => h) (by rfl) ?_ hHeld ?_
        rotate_left
        · intro w' hSw; obtain ⟨q0, q1⟩ := hSw; simp only [List.getElem?_toArray, List.getElem?_cons_zero, List.getElem?_cons_succ]; go_simp; try with_reducible rfl
        try simp only [Act.put, List.setIfInBounds_toArray, List.set_cons_zero, List.set_cons_succ]
        refine heldIn_c (fun _ => trivial) (by kernel_rfl) (i := 4) (by kernel_rfl) (by rfl) (fun K hK => ?_)
        simp only [List.getElem?_toArray, List.getElem?_cons_zero, List.getElem?_cons_succ]
        go_simp
        refine hK.out _ _ ⟨trivial, trivial⟩ (fun hHeld => ?_)
        clear hK K
        try simp only [Act.put, List.setIfInBounds_toArray, List.set_cons_zero, List.set_cons_succ]
        refine anyIn_done (by kernel_rfl) ?_ _
        exact ⟨rfl, rfl⟩
      · refine ⟨by rfl, fun K hK => ?_⟩
        simp only [List.getElem?_toArray, List.getElem?_cons_zero, List.getElem?_cons_succ]
        go_simp
        refine (CallsIn.inRound l (callsIn_wide.2 (U1.out _))).mono ?_
        rintro e w' ⟨rfl, rfl⟩
        rw [hu1]
        refine hK.out _ _ ⟨trivial, trivial⟩ (fun hHeld => ?_)
        clear hK K
        try simp only [Act.put, List.setIfInBounds_toArray, List.set_cons_zero, List.set_cons_succ]
        refine heldIn_c (fun _ => trivial) (by kernel_rfl) (i := 0) (by kernel_rfl) (by rfl) (fun K hK => ?_)
        simp only [List.getElem?_toArray, List.getElem?_cons_zero, List.getElem?_cons_succ]
        go_simp
        refine hK.out _ _ ⟨trivial, trivial⟩ (fun hHeld => ?_)
        clear hK K
        try simp only [Act.put, List.setIfInBounds_toArray, List.set_cons_zero, List.set_cons_succ]
        refine heldIn_w (fun _ => trivial) (by kernel_rfl) (i := 3) (d := some 21) (v := ?_) rfl (by kernel_rfl) (by kernel_rfl) (by kernel_rfl) (fun _ _ _ h => h) (by rfl) ?_ hHeld ?_
        rotate_left
        · intro w' hSw; obtain ⟨q0, q1⟩ := hSw; simp only [List.getElem?_toArray, List.getElem?_cons_zero, List.getElem?_cons_succ]; go_simp; try with_reducible rfl
        try simp only [Act.put, List.setIfInBounds_toArray, List.set_cons_zero, List.set_cons_succ]
        refine heldIn_c (fun _ => trivial) (by kernel_rfl) (i := 4) (by kernel_rfl) (by rfl) (fun K hK => ?_)
        simp only [List.getElem?_toArray, List.getElem?_cons_zero, List.getElem?_cons_succ]
        go_simp
        refine hK.out _ _ ⟨trivial, trivial⟩ (fun hHeld => ?_)
        clear hK K
        try simp only [Act.put, List.setIfInBounds_toArray, List.set_cons_zero, List.set_cons_succ]
        refine anyIn_done (by kernel_rfl) ?_ _
        exact ⟨rfl, rfl⟩
    case rest6 =>
      rintro a' w' ⟨rfl, rfl⟩
      obtain ⟨b1, r1, hne, hh, b2, hb⟩ := HB.out
      have k1 : Keeps [w.heap.size + 1 + 1 + 1] W (W.drew.setCell ⟨w.heap.size + 1 + 1 + 1, 0, none⟩ (.int .i64 D2)) := ((Keeps.refl _ W).drew).setCell (p := ⟨_, 0, none⟩) (.inl (by simp)) _
      have x8 : Boxed (W.drew.setCell ⟨w.heap.size + 1 + 1 + 1, 0, none⟩ (.int .i64 D2)) (w.heap.size + 1 + 1 + 1) 3 (.int .i64 D2) := Boxed.set (W := W.drew) (.int .i64 D2) b2
      have h1 := k1.block hh (by simp; omega)
      generalize W.drew.setCell ⟨w.heap.size + 1 + 1 + 1, 0, none⟩ (.int .i64 D2) = W1 at *
      have d8 := x8.cell
      have d0 := blk_cell h1 0
      have e0 := blk_free h1 0
      simp at d0
      clear b1 r1 hne hh b2 hb c8 g8
      gi_wp2_with fail
      have k2 : Keeps [w.heap.size, w.heap.size + 1 + 1 + 1] W (W1.setCell ⟨w.heap.size, 0, none⟩ (.int .i64 T2)) := (k1.more (fun f hf => .inl (by simp at hf; simp [hf]))).setCell (p := ⟨_, 0, none⟩) (.inl (by simp)) _
      have h2 := blk_set h1 0 (.int .i64 T2)
      have x8' := box_far x8 (show w.heap.size + 1 + 1 + 1 ≠ w.heap.size by omega) (.int .i64 T2)
      generalize W1.setCell ⟨w.heap.size, 0, none⟩ (.int .i64 T2) = W2 at *
      simp at h2
      have d1 := blk_cell h2 1
      have e1 := blk_free h2 1
      simp at d1
      clear x8 h1 d8 d0 e0 k1
      refine wpIn_mono (Q := OnlyN fun a' w' => a' = { tmps := #[.agg #[.int .i64 t, .int .i64 v], .string (str s), .int .i64 (m : Int), .pointer (some ⟨w.heap.size, 0, none⟩), undef, undef, .slice none 0 0, .pointer (some ⟨w.heap.size + 1 + 1, 0, none⟩), .pointer (some ⟨w.heap.size + 1 + 1 + 1, 0, none⟩), .int .u64 (x.1 : Int), .int .u64 (x.2 : Int), .agg #[.int .i64 t, .int .i64 v], .slice (some ⟨w.heap.size + 1, 0, none⟩) 1 1, .string (str s), .int .i64 (m : Int), .func (.func 58) #[] #[.pointer (some ⟨w.heap.size + 1 + 1 + 1 + 1, 0, none⟩), .pointer (some ⟨w.heap.size + 1 + 1 + 1 + 1 + 1, 0, none⟩)], .int .u64 (x.1 : Int), .int .u64 (x.2 : Int), .int .i64 d, .int .u64 (x.1 : Int), .int .i64 u1, .int .i64 D2, .pointer (some ⟨w.heap.size, 0, none⟩), .int .i64 T, .int .i64 D2, .int .i64 T2, .pointer (some ⟨w.heap.size, 0, none⟩), .pointer (some ⟨w.heap.size, 1, none⟩), .int .i64 V, .int .u64 (x.2 : Int), .int .i64 u2, .int .i64 V2, .pointer (some ⟨w.heap.size, 1, none⟩), undef, undef, undef, undef, undef], defers := [] } ∧ w' = W2.drew.setCell ⟨w.heap.size, 1, none⟩ (.int .i64 V2)) ?reg8 (only_imp ?rest8)
      case reg8 =>
        refine region_heldIn (S := fun _ => True ∧ True) (by kernel_rfl) ⟨trivial, trivial⟩ (fun hHeld => ?_)
        refine heldIn_w (fun _ => trivial) (by kernel_rfl) (i := 0) (d := some 27) (v := ?_) rfl (by kernel_rfl) (by kernel_rfl) (by kernel_rfl) (fun _ _ _ h => h) (by rfl) ?_ hHeld ?_
        rotate_left
        · intro w' hSw; obtain ⟨q0, q1⟩ := hSw; simp only [List.getElem?_toArray, List.getElem?_cons_zero, List.getElem?_cons_succ]; go_simp; try with_reducible rfl
        try simp only [Act.put, List.setIfInBounds_toArray, List.set_cons_zero, List.set_cons_succ]
        refine heldIn_w (fun _ => trivial) (by kernel_rfl) (i := 2) (d := some 29) (v := ?_) rfl (by kernel_rfl) (by kernel_rfl) (by kernel_rfl) (fun _ _ _ h => h) (by rfl) ?_ hHeld ?_
        rotate_left
        · intro w' hSw; obtain ⟨q0, q1⟩ := hSw; simp only [List.getElem?_toArray, List.getElem?_cons_zero, List.getElem?_cons_succ]; go_simp; try with_reducible rfl
        try simp only [Act.put, List.setIfInBounds_toArray, List.set_cons_zero, List.set_cons_succ]
        refine heldIn_many (fun _ => trivial) (by kernel_rfl) (rs := [1, 3]) (by kernel_rfl) (by simp) ⟨?_, ?_, trivial⟩
        · refine ⟨by rfl, fun K hK => ?_⟩
          simp only [List.getElem?_toArray, List.getElem?_cons_zero, List.getElem?_cons_succ]
          go_simp
          refine hK.out _ _ ⟨trivial, trivial⟩ (fun hHeld => ?_)
          clear hK K
          try simp only [Act.put, List.setIfInBounds_toArray, List.set_cons_zero, List.set_cons_succ]
          refine heldIn_c (fun _ => trivial) (by kernel_rfl) (i := 3) (by kernel_rfl) (by rfl) (fun K hK => ?_)
          simp only [List.getElem?_toArray, List.getElem?_cons_zero, List.getElem?_cons_succ]
          go_simp
          refine (CallsIn.inRound l (callsIn_wide.2 (U2.out _))).mono ?_
          rintro e w' ⟨rfl, rfl⟩
          rw [hu2]
          refine hK.out _ _ ⟨trivial, trivial⟩ (fun hHeld => ?_)
          clear hK K
          try simp only [Act.put, List.setIfInBounds_toArray, List.set_cons_zero, List.set_cons_succ]
          refine heldIn_w (fun _ => trivial) (by kernel_rfl) (i := 4) (d := some 31) (v := ?_) rfl (by kernel_rfl) (by kernel_rfl) (by kernel_rfl) (fun _ _ _ h => h) (by rfl) ?_ hHeld ?_
          rotate_left
          · intro w' hSw; obtain ⟨q0, q1⟩ := hSw; simp only [List.getElem?_toArray, List.getElem?_cons_zero, List.getElem?_cons_succ]; go_simp; try with_reducible rfl
          try simp only [Act.put, List.setIfInBounds_toArray, List.set_cons_zero, List.set_cons_succ]
          refine heldIn_w (fun _ => trivial) (by kernel_rfl) (i := 5) (d := some 32) (v := ?_) rfl (by kernel_rfl) (by kernel_rfl) (by kernel_rfl) (fun _ _ _ h => h) (by rfl) ?_ hHeld ?_
          rotate_left
          · intro w' hSw; obtain ⟨q0, q1⟩ := hSw; simp only [List.getElem?_toArray, List.getElem?_cons_zero, List.getElem?_cons_succ]; go_simp; try with_reducible rfl
          try simp only [Act.put, List.setIfInBounds_toArray, List.set_cons_zero, List.set_cons_succ]
          refine heldIn_c (fun _ => trivial) (by kernel_rfl) (i := 6) (by kernel_rfl) (by rfl) (fun K hK => ?_)
          simp only [List.getElem?_toArray, List.getElem?_cons_zero, List.getElem?_cons_succ]
          go_simp
          refine hK.out _ _ ⟨trivial, trivial⟩ (fun hHeld => ?_)
          clear hK K
          try simp only [Act.put, List.setIfInBounds_toArray, List.set_cons_zero, List.set_cons_succ]
          refine anyIn_done (by kernel_rfl) ?_ _
          exact ⟨rfl, rfl⟩
        · refine ⟨by rfl, fun K hK => ?_⟩
          simp only [List.getElem?_toArray, List.getElem?_cons_zero, List.getElem?_cons_succ]
          go_simp
          refine (CallsIn.inRound l (callsIn_wide.2 (U2.out _))).mono ?_
          rintro e w' ⟨rfl, rfl⟩
          rw [hu2]
          refine hK.out _ _ ⟨trivial, trivial⟩ (fun hHeld => ?_)
          clear hK K
          try simp only [Act.put, List.setIfInBounds_toArray, List.set_cons_zero, List.set_cons_succ]
          refine heldIn_c (fun _ => trivial) (by kernel_rfl) (i := 1) (by kernel_rfl) (by rfl) (fun K hK => ?_)
          simp only [List.getElem?_toArray, List.getElem?_cons_zero, List.getElem?_cons_succ]
          go_simp
          refine hK.out _ _ ⟨trivial, trivial⟩ (fun hHeld => ?_)
          clear hK K
          try simp only [Act.put, List.setIfInBounds_toArray, List.set_cons_zero, List.set_cons_succ]
          refine heldIn_w (fun _ => trivial) (by kernel_rfl) (i := 4) (d := some 31) (v := ?_) rfl (by kernel_rfl) (by kernel_rfl) (by kernel_rfl) (fun _ _ _ h => h) (by rfl) ?_ hHeld ?_
          rotate_left
          · intro w' hSw; obtain ⟨q0, q1⟩ := hSw; simp only [List.getElem?_toArray, List.getElem?_cons_zero, List.getElem?_cons_succ]; go_simp; try with_reducible rfl
          try simp only [Act.put, List.setIfInBounds_toArray, List.set_cons_zero, List.set_cons_succ]
          refine heldIn_w (fun _ => trivial) (by kernel_rfl) (i := 5) (d := some 32) (v := ?_) rfl (by kernel_rfl) (by kernel_rfl) (by kernel_rfl) (fun _ _ _ h => h) (by rfl) ?_ hHeld ?_
          rotate_left
          · intro w' hSw; obtain ⟨q0, q1⟩ := hSw; simp only [List.getElem?_toArray, List.getElem?_cons_zero, List.getElem?_cons_succ]; go_simp; try with_reducible rfl
          try simp only [Act.put, List.setIfInBounds_toArray, List.set_cons_zero, List.set_cons_succ]
          refine heldIn_c (fun _ => trivial) (by kernel_rfl) (i := 6) (by kernel_rfl) (by rfl) (fun K hK => ?_)
          simp only [List.getElem?_toArray, List.getElem?_cons_zero, List.getElem?_cons_succ]
          go_simp
          refine hK.out _ _ ⟨trivial, trivial⟩ (fun hHeld => ?_)
          clear hK K
          try simp only [Act.put, List.setIfInBounds_toArray, List.set_cons_zero, List.set_cons_succ]
          refine anyIn_done (by kernel_rfl) ?_ _
          exact ⟨rfl, rfl⟩
      case rest8 =>
        rintro a' w' ⟨rfl, rfl⟩
        have k3 : Keeps [w.heap.size, w.heap.size + 1 + 1 + 1] W (W2.drew.setCell ⟨w.heap.size, 1, none⟩ (.int .i64 V2)) := (k2.drew).setCell (p := ⟨_, 1, none⟩) (.inl (by simp)) _
        have h3 : (W2.drew.setCell ⟨w.heap.size, 1, none⟩ (.int .i64 V2)).heap[w.heap.size]? = _ := blk_set (w := W2.drew) h2 1 (.int .i64 V2)
        have x8 : Boxed (W2.drew.setCell ⟨w.heap.size, 1, none⟩ (.int .i64 V2)) (w.heap.size + 1 + 1 + 1) 3 (.int .i64 D2) := blk_far (w := W2.drew) x8' (p := ⟨w.heap.size, 1, none⟩) (by show _ ≠ w.heap.size; omega) _
        generalize W2.drew.setCell ⟨w.heap.size, 1, none⟩ (.int .i64 V2) = W3 at *
        simp at h3
        obtain ⟨b1, r1, hne, hh, b2, hb⟩ := HB.out
        have b1' := box_keeps b1 k3 (by simp; omega)
        have r1' := k3.row r1 (fun k hk hm => by
          simp at hm
          rcases hm with rfl | rfl
          · exact hne hk
          · obtain ⟨cs, hc⟩ := row_block r1 hk
            exact ne_type b2 hc (by decide) rfl)
        have c7 := b1'.cell
        have d0 := blk_cell h3 0
        have d1 := blk_cell h3 1
        simp at d0 d1
        have hs3 := k3.size
        have R1 := Lib.hid (And.intro b1' r1')
        have KK := Lib.hid (And.intro k3 (And.intro h3 x8))
        clear b1 r1 hh b2 hb b1' r1' h2 x8' e1 k2 k3 h3 x8
        gi_wp2_with (gi_at_builtin; refine listIn_app rfl (.tmp 33) (.tmp 35) 22 rfl w.heap.size 34 i0 (.agg #[.int .i64 0, .int .i64 0]) 2 16 Try.underlying22 hi0 hz0 hz1 hz2 rfl (by decide) _ (pre.length + 1) _ rfl (R1.out.2.alloc _) ⟨W3.heap.size, 0, none⟩ 1 1 [.int .i64 T2, .int .i64 V2] rfl rfl (cell_two_new _ _ _ _) ?s0 ?s1 ?s2 ?s3 ?c1)
        case s0 => intro u hu; simp at hu; rcases hu with rfl | rfl <;> rfl
        case s1 => unfold maxLen; omega
        case s2 => omega
        case s3 => simp; omega
        case c1 =>
          intro A2 cap2 w4 hown hg hat
          obtain ⟨q1, q2, q3, q4⟩ := push R1.out.1 (by decide) R1.out.2 (by omega) (by omega) hown hg
          have c9 := q1.cell
          have g9 := q1.frozen
          have H2 := Lib.hid (And.intro q2 (And.intro q3 (And.intro q4 hat)))
          clear q2 q3 q4 hown hg hat
          gi_wp2
          obtain ⟨q2, q3, q4, hat⟩ := H2.out
          obtain ⟨b1, r1, hne, hh, b2, hb⟩ := HB.out
          obtain ⟨k3, h3, x8⟩ := KK.out
          have hK : Keeps ([w.heap.size, w.heap.size + 1 + 1 + 1] ++ ((w.heap.size + 1 + 1) :: (Value.ownBlock (.slice A (pre.length + 1) cap)).toList)) W (w4.setCell ⟨w.heap.size + 1 + 1, 0, none⟩ (.slice A2 (pre.length + 1 + 1) cap2)) :=
            (k3.more (fun f hf => .inl (List.mem_append_left _ hf))).trans q4 (fun g hg => .inl (List.mem_append_right _ hg))
          have hcells : ∀ k, k ∈ ([w.heap.size, w.heap.size + 1 + 1 + 1] ++ ((w.heap.size + 1 + 1) :: (Value.ownBlock (.slice A (pre.length + 1) cap)).toList)) → w.heap.size ≤ k ∧ ((k ∈ [w.heap.size, w.heap.size + 1 + 1, w.heap.size + 1 + 1 + 1] ∧ ∃ cs ty, W.heap[k]? = some (.cells cs ty (0, 0))) ∨ ∃ cs, W.heap[k]? = some (.cells cs 34 (0, 0))) := by
            intro k hk
            rcases List.mem_append.1 hk with hk | hk
            · simp at hk
              rcases hk with rfl | rfl
              · exact ⟨Nat.le_refl _, .inl ⟨by simp, _, _, hh⟩⟩
              · exact ⟨by omega, .inl ⟨by simp, _, _, b2⟩⟩
            · rcases mem_push.1 hk with rfl | e
              · exact ⟨by omega, .inl ⟨by simp, _, _, b1⟩⟩
              · exact ⟨(r1.lt k e).1, .inr (row_block r1 e)⟩
          have hne2 : Value.ownBlock (.slice A2 (pre.length + 1 + 1) cap2) ≠ some w.heap.size := by
            rcases hat with e | e
            · rw [e]; exact hne
            · rw [e]; intro h; injection h with h
              omega
          have hsG : w.heap.size ∉ (w.heap.size + 1 + 1) :: (Value.ownBlock (.slice A (pre.length + 1) cap)).toList := fun hm => by
            rcases mem_push.1 hm with e | e
            · omega
            · exact hne e
          have h3G : w.heap.size + 1 + 1 + 1 ∉ (w.heap.size + 1 + 1) :: (Value.ownBlock (.slice A (pre.length + 1) cap)).toList := fun hm => by
            rcases mem_push.1 hm with e | e
            · omega
            · obtain ⟨cs, hc⟩ := row_block R1.out.2 e
              exact ne_type x8 hc (by decide) rfl
          have hl2 : (pre ++ [x]).length = pre.length + 1 := by simp
          refine ⟨Books.of_keeps hK (fun k hk _ => ?_), ⟨hK.to hbs (fun f hf => (hcells f hf).1), Spares.of_keeps hK (fun k hk => ?_)⟩, ?_⟩
          · rcases (hcells k hk).2 with ⟨_, _, _, h⟩ | ⟨_, h⟩ <;> exact book_cells h
          · rcases (hcells k hk).2 with ⟨h, _⟩ | ⟨cs, h⟩
            · exact .inl h
            · exact .inr (.inr ⟨cs, _, h⟩)
          · show (∃ A cap, _) ∧ _
            rw [hl2, HS.out.1, HS.out.2]
            refine ⟨⟨A2, cap2, q2, ?_, hne2⟩, q4.block h3 hsG, box_keeps x8 q4 h3G, hb.trans (hK.to hbs (fun f hf => (hcells f hf).1))⟩
            have h := q3
            rw [show smpC ((t, v) :: (lenG t v 0 pre ++ [(T2, V2)])) = smpC ((t, v) :: lenG t v 0 pre) ++ [.int .i64 T2, .int .i64 V2] by rw [← List.cons_append, smpC_append]; rfl]
            exact h
  case done =>
    rintro D W hD ⟨⟨A, cap, b1, r1, hne⟩, hh, b2, hb⟩ hKD
    have c1 := b1.cell
    go_wp2_with fail
    refine ⟨by simp, .inl ⟨_, _, rfl, run_takeDeferred hKD, ?_⟩⟩
    exact ⟨_, results_tmp rfl _ _ _, ⟨A, cap, rfl, ownsRow_putObj r1 _ hKD rfl⟩, hb.trans (belowK_b (w := w) (Nat.le_refl _) W D _ _ (by omega) hKD rfl rfl)⟩
theorem lenG_range (ps : List (Nat × Nat)) : ∀ (t v d : Int) (s : Smp), s ∈ lenG t v d ps → -9223372036854775808 ≤ s.1 ∧ s.1 ≤ 9223372036854775807 ∧ -9223372036854775808 ≤ s.2 ∧ s.2 ≤ 9223372036854775807 := by
  induction ps with
  | nil => intro t v d s hs; simp [lenG] at hs
  | cons x ps ih =>
    intro t v d s hs
    rcases List.mem_cons.1 hs with rfl | hs
    · have a := wrap_range (t + wrap64 (d + unfold x.1))
      have b := wrap_range (v + unfold x.2)
      exact ⟨a.1, a.2, b.1, b.2⟩
    · exact ih _ _ _ s hs
/-- A slice of the call's own that has samples. -/
theorem sAt_row {W : World} {B n cap : Nat} {A : Option Addr} {l : List Smp} (h : W.ownsRow B 34 2 (.slice A n cap) n (smpC l)) (hn : n = l.length)
    (hr : ∀ s, s ∈ l → -9223372036854775808 ≤ s.1 ∧ s.1 ≤ 9223372036854775807 ∧ -9223372036854775808 ≤ s.2 ∧ s.2 ≤ 9223372036854775807) : SAt W A n l := by
  refine ⟨hn, fun i hi => ?_⟩
  have hrr := hr l[i] (List.getElem_mem hi)
  refine ⟨hrr, ?_⟩
  rcases h.2 with ⟨e, h0⟩ | ⟨g, c, cur, e, hB, hg, hle, hm, hsz, htk⟩
  · omega
  · injection e with e1 e2 e3
    subst e1
    have hc := smpC_get l i hi
    have at_ : ∀ j u, (smpC l)[j]? = some u → W.cell? ⟨g, j, none⟩ = some u := fun j u hu => by
      rw [blk_cell hg j]
      rw [← htk, List.getElem?_take] at hu
      split at hu
      · simpa using hu
      · cases hu
    have e : ∀ k : Nat, (⟨g, 0, none⟩ : Addr).add k = ⟨g, k, none⟩ := fun k => by unfold Addr.add; split <;> simp_all
    refine ⟨_, rfl, ?_, ?_, ?_⟩
    · rw [e]; exact lt_of_block hg
    · rw [e, Nat.mul_comm]; exact at_ _ _ hc.1
    · rw [e, Nat.mul_comm]; exact at_ _ _ hc.2
def Guessed : Option (List Smp) → Ending → World → Prop
  | none, e, _ => ∃ er, er ≠ 0 ∧ e = .returned (.tuple #[.slice none 0 0, .int .i64 er])
  | some l, e, w' => ∃ A cap, e = .returned (.tuple #[.slice A l.length cap, .int .i64 0]) ∧ SAt w' A l.length l ∧ l.length ≤ 5000
set_option maxRecDepth 100000 in
set_option maxHeartbeats 1000000 in
theorem guess_c (s : List UInt8) (w : World) (hs : s.length ≤ 281474976710656) :
    Calls Try.prog 24 #[.string (str s)] w fun e w' => Guessed (gD s) e w' ∧ Below w.heap.size w w' := by
  obtain ⟨n, a1, e1, h1⟩ : ∃ n a e, getU s 0 = (n, a, e) := ⟨_, _, _, rfl⟩
  obtain ⟨t, a2, e2, h2⟩ : ∃ n a e, getU s a1 = (n, a, e) := ⟨_, _, _, rfl⟩
  obtain ⟨v, a3, e3, h3⟩ : ∃ n a e, getI s a2 = (n, a, e) := ⟨_, _, _, rfl⟩
  obtain ⟨G, hG⟩ : ∃ G, gD s = G := ⟨_, rfl⟩
  rw [hG]
  have hgd := hG
  unfold gD at hgd
  simp only [h1, h2, h3] at hgd
  have HG := Lib.hid hgd
  have r1 := getU_range h1
  have r2 := getU_range h2
  have c1 := getUint_c s 0 n a1 e1 w (by omega) (by omega) (by omega) h1
  have c2 := fun W => getUint_c s a1 t a2 e2 W (by omega) (by omega) (by omega) h2
  have c3 := fun W => getInt_c s a2 v a3 e3 W (by omega) (by omega) (by omega) h3
  have C1 := Lib.hid c1
  have C2 := Lib.hid c2
  have C3 := Lib.hid c3
  have v3 := getI_vals h3
  have r3 : 0 ≤ a3 ∧ a3 ≤ s.length := by
    obtain ⟨u', n', e', hu⟩ : ∃ u n e, getU s a2 = (u, n, e) := ⟨_, _, _, rfl⟩
    have hr := getU_range hu
    unfold getI at h3
    rw [hu] at h3
    simp only at h3
    split at h3
    · injection h3 with _ h4
      injection h4 with h4 _
      omega
    · injection h3 with _ h4
      injection h4 with h4 _
      omega
  clear hG hgd h1 h2 h3 c1 c2 c3
  go_enter Try.func24, Try.ntmps24
  by_cases x1 : e1 = 0
  · have b1 : (e1 == 0) = true := by simp [x1]
    by_cases x2 : 5000 < n
    · have b2 : decide (5000 < n) = true := by simpa using x2
      have hg := HG.out
      rw [if_pos (.inr x2)] at hg
      have HX := Lib.hid hg
      clear x1 x2 hg
      go_wp2_with fail
      refine C1.out.mono ?_
      rintro e w' ⟨rfl, rfl⟩
      go_wp2_with fail
      go_ret2
      refine ⟨?_, Below.refl _ _⟩
      rw [← HX.out]
      exact ⟨11, by omega, rfl⟩
    · have b2 : decide (5000 < n) = false := by simpa using x2
      by_cases x3 : n = 0
      · have b3 : (n == 0) = true := by simp [x3]
        have hg := HG.out
        rw [if_neg (by omega), if_pos x3] at hg
        have HX := Lib.hid hg
        clear x1 x2 x3 hg
        go_wp2_with fail
        refine C1.out.mono ?_
        rintro e w' ⟨rfl, rfl⟩
        go_wp2_with fail
        go_ret2
        refine ⟨?_, Below.refl _ _⟩
        rw [← HX.out]
        exact ⟨none, 0, rfl, SAt.nil _ _, by simp⟩
      · have b3 : (n == 0) = false := by simp [x3]
        by_cases x4 : e2 = 0
        · have b4 : (e2 == 0) = true := by simp [x4]
          by_cases x5 : e3 = 0
          · have b5 : (e3 == 0) = true := by simp [x5]
            have hg := HG.out
            rw [if_neg (by omega), if_neg x3, if_neg (by omega)] at hg
            have HX := Lib.hid hg
            have wr := wrap_range t
            have wt : IntKind.i64.wrap t = wrap64 t := by rw [IntKind.wrap_i64]; unfold wrap64; rfl
            have wn : IntKind.i64.wrap n = n := IntWalk.i64_in _ (by omega)
            obtain ⟨m, hm⟩ : ∃ m : Nat, n - 1 = (m : Int) := ⟨(n - 1).toNat, by omega⟩
            obtain ⟨p, rfl⟩ : ∃ p : Nat, a3 = (p : Int) := ⟨a3.toNat, by omega⟩
            have hm5 : (m : Int) < 5000 := by omega
            have hm6 : m ≤ 5000 := by omega
            have hm7 : m + 1 ≤ 5000 := by omega
            have hnm : n.toNat - 1 = m := by omega
            have wm : IntKind.i64.wrap (n - 1) = (m : Int) := by rw [hm]; exact IntWalk.i64_in _ (by omega)
            have wm2 : wrap64 (m : Int) = (m : Int) := wrap64_id _ (by omega) (by omega)
            have htk : List.take (s.length - p) (List.drop p s) = s.drop p := List.take_of_length_le (by simp)
            have hdl : (s.drop p).length ≤ 281474976710656 := by rw [List.length_drop]; omega
            have LN := Lib.hid (lengthen_c (wrap64 t) v (s.drop p) m w hdl hm6 wr.1 wr.2 v3.1 v3.2)
            have ht5 := toldS_len (s.drop p) m
            have HT := Lib.hid (And.intro wr (And.intro v3 (And.intro hnm (Nat.le_trans (Nat.succ_le_succ ht5) hm7))))
            clear hm7 hm6 hm5 ht5
            clear x1 x2 x3 x4 x5 hg hm hnm
            go_wp2_with fail
            refine C1.out.mono ?_
            rintro e w' ⟨rfl, rfl⟩
            go_wp2_with fail
            refine (C2.out _).mono ?_
            rintro e w' ⟨rfl, rfl⟩
            go_wp2_with fail
            refine (C3.out _).mono ?_
            rintro e w' ⟨rfl, rfl⟩
            go_wp2_with fail
            refine LN.out.mono ?_
            rintro e w2 ⟨⟨A, cap, rfl, hrow⟩, hb2⟩
            go_wp2_with fail
            go_ret2
            refine ⟨?_, hb2⟩
            obtain ⟨hwr, hv3, hnm, ht5⟩ := HT.out
            have hgx := HX.out
            rw [Int.toNat_natCast, hnm] at hgx
            rw [← hgx]
            have hll : ((wrap64 t, v) :: lenG (wrap64 t) v 0 (toldS (s.drop p) m)).length = (toldS (s.drop p) m).length + 1 := by rw [List.length_cons, lenG_length]
            refine ⟨A, cap, by rw [hll]; rfl, ?_, by rw [hll]; exact ht5⟩
            rw [hll]
            exact sAt_row hrow hll.symm (fun s hs => by
              rcases List.mem_cons.1 hs with rfl | hs
              · exact ⟨hwr.1, hwr.2, hv3.1, hv3.2⟩
              · exact lenG_range _ _ _ _ s hs)
          · have b5 : (e3 == 0) = false := by simp [x5]
            have hg := HG.out
            rw [if_neg (by omega), if_neg x3, if_pos (.inr x5)] at hg
            have HX := Lib.hid (And.intro hg x5)
            clear x1 x2 x3 x4 x5 hg
            go_wp2_with fail
            refine C1.out.mono ?_
            rintro e w' ⟨rfl, rfl⟩
            go_wp2_with fail
            refine (C2.out _).mono ?_
            rintro e w' ⟨rfl, rfl⟩
            go_wp2_with fail
            refine (C3.out _).mono ?_
            rintro e w' ⟨rfl, rfl⟩
            go_wp2_with fail
            go_ret2
            refine ⟨?_, Below.refl _ _⟩
            rw [← HX.out.1]
            exact ⟨e3, HX.out.2, rfl⟩
        · have b4 : (e2 == 0) = false := by simp [x4]
          have hg := HG.out
          rw [if_neg (by omega), if_neg x3, if_pos (.inl x4)] at hg
          have HX := Lib.hid (And.intro hg x4)
          clear x1 x2 x3 x4 hg
          go_wp2_with fail
          refine C1.out.mono ?_
          rintro e w' ⟨rfl, rfl⟩
          go_wp2_with fail
          refine (C2.out _).mono ?_
          rintro e w' ⟨rfl, rfl⟩
          go_wp2_with fail
          go_ret2
          refine ⟨?_, Below.refl _ _⟩
          rw [← HX.out.1]
          exact ⟨e2, HX.out.2, rfl⟩
  · have b1 : (e1 == 0) = false := by simp [x1]
    have hg := HG.out
    rw [if_pos (.inl x1)] at hg
    have HX := Lib.hid (And.intro hg x1)
    clear x1 hg
    go_wp2_with fail
    refine C1.out.mono ?_
    rintro e w' ⟨rfl, rfl⟩
    go_wp2_with fail
    go_ret2
    refine ⟨?_, Below.refl _ _⟩
    rw [← HX.out.1]
    exact ⟨e1, HX.out.2, rfl⟩
end Go.Proofs.Yteaelcimlmckjaa
