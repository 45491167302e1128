/-
  Layer 5 (match): what the program's first returns; all that was in memory stays.
-/
import Derived.Test.YtopnnhjfcfhihaaDoorMatchQ
import Derived.Test.YtopnnhjfcfhihaaDoorMatchP
namespace Go.Proofs.YtopnnhjfcfhihaaDoor
open Go.RowKit Go.Deep
attribute [local go_sem] str_size str_append str_toList str_get str_extract
set_option linter.unusedVariables false
set_option linter.unusedSimpArgs false
theorem results_cell_tmp2 {fn : Func} {p u v : Tmp} {ty : TypeId} (h : fn.results = #[.cell p ty, .tmp u, .tmp v]) (tmps : Array Value) (P : Program) (w : World) :
    (results fn tmps).run P w =
      ((asAddr (tmps.getD p undef)).run P w).andThen fun a w₁ => ((loadVar ty a).run P w₁).andThen fun x w₂ => .ok (.tuple #[x, tmps.getD u undef, tmps.getD v undef]) w₂ := by
  simp only [results, h]
  simp [Sem.run_bind, Result.andThen]
theorem cutS_c (a p : List UInt8) (m : Int) (w : World) (ha : a.length ≤ 1048576) (hm : w.cell? ⟨0, 0, none⟩ = some (.int .i64 m)) (x y : List UInt8) (b : Bool) (h : Lib.cut a p = (x, y, b)) :
    Calls Tryd.prog 59 #[.string (str a), .string (str p)] w fun e w' => e = .returned (.tuple #[.string (str x), .string (str y), .bool b]) ∧ ∃ n, w' = w.drewN n :=
  (Tryd.strings_Cut (str a) (str p) m w (by rw [str_size]; omega) hm).mono fun _ _ ⟨k, n⟩ => ⟨by rw [k, str_data, str_data, h]; rfl, n⟩
theorem row_base {w : World} {B C : Nat} {e : TypeId} {size : Nat} {v : Value} {n : Nat} {xs : List Value} (h : w.ownsRow B e size v n xs) (hC : C ≤ B) : w.ownsRow C e size v n xs := by
  refine ⟨h.1, ?_⟩
  rcases h.2 with h0 | ⟨g, cap, cur, hv, hb, rest⟩
  · exact .inl h0
  · exact .inr ⟨g, cap, cur, hv, Nat.le_trans hC hb, rest⟩
def FirstM (s : List UInt8) (e : Ending) (w' : World) : Prop :=
  (e = .returned (.tuple #[.agg #[.int .i64 0, .string (str []), .string (str []), .slice none 0 0], .string (str []), .bool false]) ∧ ∀ m t, chkL m = true → okT t → textM m ++ t ≠ s) ∨
  ∃ (m : Mat) (S : Option Addr) (cap : Nat) (b : List UInt8), e = .returned (.tuple #[.agg #[.int .i64 m.1, .string (str m.2.1), .string (str m.2.2.1), .slice S m.2.2.2.length cap], .string (str b), .bool true]) ∧
    w'.ownsRow 0 9 1 (.slice S m.2.2.2.length cap) m.2.2.2.length (strsC m.2.2.2) ∧ b.length < s.length ∧
    (0 ≤ m.1 ∧ m.1 ≤ 3 ∧ nameL m.2.1 = true ∧ valueL m.2.2.1 = true ∧ m.2.2.2.length ≤ s.length ∧ ∀ x ∈ m.2.2.2, valueL x = true) ∧ ∀ m' t, chkL m' = true → okT t → textM m' ++ t = s → m' = m ∧ t = b
set_option maxRecDepth 100000 in
set_option maxHeartbeats 4000000 in
theorem first_c (s : List UInt8) (w : World) (hs : s.length ≤ 16000) (m : Int) (hm : w.cell? ⟨0, 0, none⟩ = some (.int .i64 m)) (hm2 : 0 < w.heap.size) (hT : Lib.Utf8Tabs 1 2 w) :
    Calls Tryd.prog 50 #[.string (str s)] w fun e w' => FirstM s e w' ∧ Below w.heap.size w w' := by
  have dq := blk_new w (.cells #[.int .i64 0, .string (str []), .string (str []), .slice none 0 0] 30)
  obtain ⟨wa, hwa⟩ : ∃ wa, wa = w.alloc (.cells #[.int .i64 0, .string (str []), .string (str []), .slice none 0 0] 30) := ⟨_, rfl⟩
  have hba : Below w.heap.size w wa := by rw [hwa]; exact (Below.refl _ _).alloc (Nat.le_refl _) _
  have hsa : w.heap.size < wa.heap.size := by rw [hwa]; simp
  rw [← hwa] at dq
  have HQ : Hid (∀ W, Below wa.heap.size wa W → W.heap[w.heap.size]? = some (.cells #[.int .i64 0, .string (str []), .string (str []), .slice none 0 0] 30 (0, 0))) := fun W hW => (hW.block _ hsa).trans dq
  have HW : Hid (∀ W, Below wa.heap.size wa W → Below w.heap.size w W ∧ W.cell? ⟨0, 0, none⟩ = some (.int .i64 m) ∧ 0 < W.heap.size ∧ Lib.Utf8Tabs 1 2 W) := fun W hW => by
    have h := hba.trans (hW.mono (by omega))
    exact ⟨h, (h.cell (p := ⟨0, 0, none⟩) hm2).trans hm, Nat.lt_of_lt_of_le hm2 h.size, Utf8Tabs_below hT h⟩
  clear dq hba hm hT
  go_enter Tryd.func50, Tryd.ntmps50
  go_wp2_with fail
  go_loopw [14] (fun c wr => ∃ k : Nat, k ≤ 4 ∧ c = .int .i64 k ∧ Hid (From s k) ∧ Below wa.heap.size wa wr) (fun c _ => 4 - (intOf c).toNat)
  case atStart => exact ⟨0, by omega, rfl, From.zero s, by rw [hwa]; exact Below.refl _ _⟩
  case round =>
    clear hwa
    obtain ⟨k, hk4, rfl, HF, hb⟩ := hrel
    have hsz := hb.size
    by_cases hlt : (k : Int) < 4
    · have hk3 : 0 ≤ (k : Int) ∧ (k : Int) ≤ 3 := by omega
      have ck := fun W => kindOf_c k W
      rw [decide_eq_true hk3] at ck
      obtain ⟨mark, nt, F, ek, es, hml⟩ := kind_sign k hk3
      rw [ek] at ck
      unfold kindV at ck
      have hst := fun (a : Addr) (w : World) => run_store Tryd.prog w a (.func (.func F) #[] #[]) .plain rfl
      have cs := fun W => sign_c mark nt (decide ((k : Int) = 3)) F W (by omega)
      rw [es] at cs
      have hup := fun h => HF.out.up (k := k) h
      have hhere := fun n q h h' => HF.out.here (n := n) (q := q) (k := k) (by omega) h h'
      obtain ⟨⟨n, q, ok⟩, hcut⟩ : ∃ x, Lib.cut s (signL k) = x := ⟨_, rfl⟩
      have hcl := fun (h : ok = true) => cut_len (s := s) (p := signL k) (n := n) (q := q) (by rw [hcut, h])
      have cc := fun W h => cutS_c s (signL k) m W (by omega) h n q ok hcut
      obtain ⟨G, hG⟩ : ∃ G, signL k = G := ⟨_, rfl⟩
      rw [hG] at cs cc hcut hup hhere
      obtain ⟨many, hmany⟩ : ∃ b, decide ((k : Int) = 3) = b := ⟨_, rfl⟩
      rw [hmany] at ck cs
      have HCUT := Lib.hid hcut
      have HMANY := Lib.hid hmany
      clear ek es hG hmany hcut
      cases ok with
      | false =>
        have HE : Hid (From s (k + 1 : Nat)) := by
          have := hup (fun n' q' h => by rw [HCUT.out] at h; injection h with _ h; injection h with _ h; cases h)
          exact this
        clear hup hhere hcl
        go_wp2_with (first | (go_at_call 19; refine (ck _).mono ?_; rintro e w1 ⟨rfl, hb1⟩; have hb1' := below2 hb hb1 hsz; have hbk := hb1'.alloc hb1'.size (.cells #[.string (str mark), .bool nt, .bool many, .func (.func F) #[] #[]] 43); dsimp only) | (go_at_call 43; refine (cs _).mono ?_; rintro e w2 ⟨rfl, hb2⟩; have hb2' := below2 hbk hb2 hbk.size; dsimp only) | (go_at_call 59; refine (cc _ (HW.out _ hb2').2.1).mono ?_; rintro e w3 ⟨rfl, ⟨nq, rfl⟩⟩; have hb3 := below_drewN hb2' nq; dsimp only))
        go_roundw
        case rel => exact ⟨k + 1, by omega, by go_num, HE.out, hb3⟩
        case measure => simp [intOf]; omega
      | true =>
        have hql := hcl rfl
        have cn := fun W => name_c n W (by omega)
        cases hN : nameL n with
        | false =>
          have HE : Hid (From s (k + 1 : Nat)) := by
            have := hup (fun n' q' h => by rw [HCUT.out] at h; injection h with h1 h; rw [← h1]; exact hN)
            exact this
          rw [hN] at cn
          clear hup hhere hcl hN
          go_wp2_with (first | (go_at_call 19; refine (ck _).mono ?_; rintro e w1 ⟨rfl, hb1⟩; have hb1' := below2 hb hb1 hsz; have hbk := hb1'.alloc hb1'.size (.cells #[.string (str mark), .bool nt, .bool many, .func (.func F) #[] #[]] 43); dsimp only) | (go_at_call 43; refine (cs _).mono ?_; rintro e w2 ⟨rfl, hb2⟩; have hb2' := below2 hbk hb2 hbk.size; dsimp only) | (go_at_call 59; refine (cc _ (HW.out _ hb2').2.1).mono ?_; rintro e w3 ⟨rfl, ⟨nq, rfl⟩⟩; have hb3 := below_drewN hb2' nq; dsimp only) | (go_at_call 20; refine (cn _).mono ?_; rintro e w4 ⟨rfl, hb4⟩; have hb4' := below2 hb3 hb4 hb3.size; dsimp only))
          go_roundw
          case rel => exact ⟨k + 1, by omega, by go_num, HE.out, hb4'⟩
          case measure => simp [intOf]; omega
        | true =>
          have HH := Lib.hid (hhere n q HCUT.out hN)
          have HN := Lib.hid hN
          rw [hN] at cn
          have hn1 := nameL_len hN
          have hn0 : 1 ≤ n.length := List.length_pos_iff.2 (nameL_ne hN)
          clear hup hhere hcl hN
          go_wp2_with (first | (go_at_call 19; refine (ck _).mono ?_; rintro e w1 ⟨rfl, hb1⟩; have hb1' := below2 hb hb1 hsz; have hbk := hb1'.alloc hb1'.size (.cells #[.string (str mark), .bool nt, .bool many, .func (.func F) #[] #[]] 43); dsimp only) | (go_at_call 43; refine (cs _).mono ?_; rintro e w2 ⟨rfl, hb2⟩; have hb2' := below2 hbk hb2 hbk.size; dsimp only) | (go_at_call 59; refine (cc _ (HW.out _ hb2').2.1).mono ?_; rintro e w3 ⟨rfl, ⟨nq, rfl⟩⟩; have hb3 := below_drewN hb2' nq; dsimp only) | (go_at_call 20; refine (cn _).mono ?_; rintro e w4 ⟨rfl, hb4⟩; have hb4' := below2 hb3 hb4 hb3.size; dsimp only))
          have hS4 := HW.out _ hb4'
          refine (quoted_c q _ (by omega) m hS4.2.1 hS4.2.2.1 hS4.2.2.2).mono ?_
          rintro e w5 ⟨hQ, hb5⟩
          have hb5' := below2 hb4' hb5 hb4'.size
          clear hS4
          rcases hQ with ⟨rfl, hno⟩ | ⟨g, cap, vals, next, rfl, hown, hne, hvl, hnl, hvv, hun⟩
          · have HNO : Hid (∀ m' t, chkL m' = true → okT t → textM m' ++ t ≠ s) := fun m' t hm ht e => by
              obtain ⟨_, h2⟩ := HH.out m' t hm ht e
              exact hno _ _ (vals_ok hm ht) h2
            have d := HQ.out _ hb5'
            have d0 := blk_cell d 0
            have d1 := blk_cell d 1
            have d2 := blk_cell d 2
            have d3 := blk_cell d 3
            have f0 := blk_free d 0
            have f1 := blk_free d 1
            have f2 := blk_free d 2
            have f3 := blk_free d 3
            simp only [List.getElem?_toArray, List.getElem?_cons_zero, List.getElem?_cons_succ] at d0 d1 d2 d3
            clear hno d
            go_wp2_with fail
            have hbE := (((((HW.out _ hb5').1.setCell (p := ⟨w.heap.size, 0, none⟩) (Nat.le_refl _) (.int .i64 0)).setCell (p := ⟨w.heap.size, 1, none⟩) (Nat.le_refl _) (.string (str []))).setCell (p := ⟨w.heap.size, 2, none⟩) (Nat.le_refl _) (.string (str []))).setCell (p := ⟨w.heap.size, 3, none⟩) (Nat.le_refl _) (.slice none 0 0))
            refine bodyPost_ret (v := .tuple #[.agg #[.int .i64 0, .string (str []), .string (str []), .slice none 0 0], .string (str []), .bool false]) ?_ rfl ⟨.inl ⟨rfl, HNO.out⟩, hbE⟩
            rw [results_cell_tmp2 rfl]
            go_simp
            try rfl
          · have hg4 : w4.heap.size ≤ g := ownLow hown g rfl
            have hg5 : g < w5.heap.size := ownLt hown g rfl
            have hw4 := hb4'.size
            obtain ⟨v0, vr, hv0⟩ : ∃ v0 vr, vals = v0 :: vr := by
              cases vals with
              | nil => exact absurd rfl hne
              | cons a b => exact ⟨a, b, rfl⟩
            have hpos : 0 < vals.length := List.length_pos_iff.2 hne
            have hc0 : w5.cell? ⟨g, 0, none⟩ = some (.string (str v0)) := by
              have h := hown.cellAt 0 (by omega)
              rw [h, hv0]; rfl
            have cl := fun W => lclone_c n W (by omega)
            have hk5 := (below2 (below2 (below_drewN hb2 nq) hb4 hb2.size) hb5 (below2 (below_drewN hb2 nq) hb4 hb2.size).size)
            have hkx := (hk5.block w1.heap.size (by simp)).trans (blk_new w1 (.cells #[.string (str mark), .bool nt, .bool many, .func (.func F) #[] #[]] 43))
            have hkl : w1.heap.size < w5.heap.size := lt_of_block hkx
            have HKX : Hid (∀ W, Below w5.heap.size w5 W → W.heap[w1.heap.size]? = some (.cells #[.string (str mark), .bool nt, .bool many, .func (.func F) #[] #[]] 43 (0, 0)) ∧ W.cell? ⟨g, 0, none⟩ = some (.string (str v0))) := fun W hW => ⟨(hW.block _ hkl).trans hkx, (hW.cell (p := ⟨g, 0, none⟩) hg5).trans hc0⟩
            have HV := Lib.hid (And.intro hvv (And.intro hv0 (And.intro hne hvl)))
            have HUN : Hid (∀ m' t, chkL m' = true → okT t → textM m' ++ t = s → m' = matOf k n vals ∧ t = next) := fun m' t hm ht e => by
              obtain ⟨h1, h2⟩ := HH.out m' t hm ht e
              obtain ⟨h3, h4⟩ := hun _ _ (vals_ok hm ht) h2
              exact ⟨by rw [h1, h3], h4⟩
            have HO := Lib.hid hown
            have HB5 := Lib.hid hb5'
            clear hown hk5 hkx hc0 hvv hv0 hne hun hb5 hb2 hb4 HH
            cases many with
            | true =>
              have hk3' : k = 3 := by have := HMANY.out; simp at this; omega
              subst hk3'
              go_wp2_with (go_at_call 42; refine (cl _).mono ?_; rintro e w6 ⟨rfl, hb6⟩; have hs6 := hb6.size; have hkl6 := Nat.lt_of_lt_of_le hkl hs6; have hg6 := Nat.lt_of_lt_of_le hg5 hs6; obtain ⟨x1, x2⟩ := HKX.out _ hb6; have e0 := blk_cell x1 0; have e1 := blk_cell x1 1; have e2 := blk_cell x1 2; have e3 := blk_cell x1 3; simp only [List.getElem?_toArray, List.getElem?_cons_zero, List.getElem?_cons_succ] at e0 e1 e2 e3; have hb6' := below2 HB5.out hb6 HB5.out.size; have d := HQ.out _ hb6'; have hdl := lt_of_block d; have d0 := blk_cell d 0; have d1 := blk_cell d 1; have d2 := blk_cell d 2; have d3 := blk_cell d 3; have f0 := blk_free d 0; have f1 := blk_free d 1; have f2 := blk_free d 2; have f3 := blk_free d 3; simp only [List.getElem?_toArray, List.getElem?_cons_zero, List.getElem?_cons_succ] at d0 d1 d2 d3; clear d x1; dsimp only)
              have hbE := ((((((HW.out _ hb6').1).setCell (p := ⟨w.heap.size, 0, none⟩) (Nat.le_refl _) (.int .i64 3)).setCell (p := ⟨w.heap.size, 1, none⟩) (Nat.le_refl _) (.string (str n))).setCell (p := ⟨w.heap.size, 2, none⟩) (Nat.le_refl _) (.string (str []))).setCell (p := ⟨w.heap.size, 3, none⟩) (Nat.le_refl _) (.slice (some ⟨g, 0, none⟩) vals.length cap)).alloc (by simp [World.setCell]; omega) (.cells #[.int .i64 3, .string (str n), .string (str []), .slice (some ⟨g, 0, none⟩) vals.length cap] 30)
              have hne1 : (Value.slice (some ⟨g, 0, none⟩) vals.length cap).ownBlock ≠ some w.heap.size := by show some g ≠ some w.heap.size; intro e; injection e with e; omega
              refine bodyPost_ret (v := .tuple #[.agg #[.int .i64 3, .string (str n), .string (str []), .slice (some ⟨g, 0, none⟩) vals.length cap], .string (str next), .bool true]) ?_ rfl ⟨.inr ⟨(3, n, [], vals), (some ⟨g, 0, none⟩), cap, next, rfl, row_base ((row_set (row_set (row_set (row_set ((Keeps.below (F := []) hb6).row HO.out (by simp)) hne1 _) hne1 _) hne1 _) hne1 _).alloc _) (Nat.zero_le _), by omega, ⟨by omega, by omega, HN.out, rfl, ⟨by show vals.length ≤ s.length; have := HV.out.2.2.2; omega, HV.out.1⟩⟩, fun m' t hm ht e => ?_⟩, hbE⟩
              · rw [results_cell_tmp2 rfl]
                go_simp
                try rfl
              · obtain ⟨h1, h2⟩ := HUN.out m' t hm ht e
                exact ⟨by rw [h1]; rfl, h2⟩
            | false =>
              have hk3' : ¬ (k : Int) = 3 := by have := HMANY.out; simpa using this
              go_wp2_with (go_at_call 42; refine (cl _).mono ?_; rintro e w6 ⟨rfl, hb6⟩; have hs6 := hb6.size; have hkl6 := Nat.lt_of_lt_of_le hkl hs6; have hg6 := Nat.lt_of_lt_of_le hg5 hs6; obtain ⟨x1, x2⟩ := HKX.out _ hb6; have e0 := blk_cell x1 0; have e1 := blk_cell x1 1; have e2 := blk_cell x1 2; have e3 := blk_cell x1 3; simp only [List.getElem?_toArray, List.getElem?_cons_zero, List.getElem?_cons_succ] at e0 e1 e2 e3; have hb6' := below2 HB5.out hb6 HB5.out.size; have d := HQ.out _ hb6'; have hdl := lt_of_block d; have d0 := blk_cell d 0; have d1 := blk_cell d 1; have d2 := blk_cell d 2; have d3 := blk_cell d 3; have f0 := blk_free d 0; have f1 := blk_free d 1; have f2 := blk_free d 2; have f3 := blk_free d 3; simp only [List.getElem?_toArray, List.getElem?_cons_zero, List.getElem?_cons_succ] at d0 d1 d2 d3; clear d x1; dsimp only)
              have hbE := ((((((HW.out _ hb6').1).setCell (p := ⟨w.heap.size, 0, none⟩) (Nat.le_refl _) (.int .i64 k)).setCell (p := ⟨w.heap.size, 1, none⟩) (Nat.le_refl _) (.string (str n))).setCell (p := ⟨w.heap.size, 2, none⟩) (Nat.le_refl _) (.string (str v0))).setCell (p := ⟨w.heap.size, 3, none⟩) (Nat.le_refl _) (.slice none 0 0)).alloc (by simp [World.setCell]; omega) (.cells #[.int .i64 k, .string (str n), .string (str v0), .slice none 0 0] 30)
              have hne1 : (Value.slice (some ⟨g, 0, none⟩) vals.length cap).ownBlock ≠ some w.heap.size := by show some g ≠ some w.heap.size; intro e; injection e with e; omega
              refine bodyPost_ret (v := .tuple #[.agg #[.int .i64 k, .string (str n), .string (str v0), .slice none 0 0], .string (str next), .bool true]) ?_ rfl ⟨.inr ⟨((k : Int), n, v0, []), none, 0, next, rfl, ⟨rfl, .inl ⟨rfl, rfl⟩⟩, by omega, ⟨by omega, by omega, HN.out, HV.out.1 v0 (by rw [HV.out.2.1]; simp), ⟨by simp, fun x hx => by simp at hx⟩⟩, fun m' t hm ht e => ?_⟩, hbE⟩
              · rw [results_cell_tmp2 rfl]
                go_simp
                try rfl
              · obtain ⟨h1, h2⟩ := HUN.out m' t hm ht e
                exact ⟨by rw [h1]; unfold matOf; rw [if_neg hk3', HV.out.2.1]; rfl, h2⟩
    · obtain rfl : k = 4 := by omega
      have HNO := Lib.hid (HF.out.none (by omega))
      have d := HQ.out _ hb
      have d0 := blk_cell d 0
      have d1 := blk_cell d 1
      have d2 := blk_cell d 2
      have d3 := blk_cell d 3
      have f0 := blk_free d 0
      have f1 := blk_free d 1
      have f2 := blk_free d 2
      have f3 := blk_free d 3
      simp only [List.getElem?_toArray, List.getElem?_cons_zero, List.getElem?_cons_succ] at d0 d1 d2 d3
      clear d
      go_wp2_with fail
      have hbE := (((((HW.out _ hb).1).setCell (p := ⟨w.heap.size, 0, none⟩) (Nat.le_refl _) (.int .i64 0)).setCell (p := ⟨w.heap.size, 1, none⟩) (Nat.le_refl _) (.string (str []))).setCell (p := ⟨w.heap.size, 2, none⟩) (Nat.le_refl _) (.string (str []))).setCell (p := ⟨w.heap.size, 3, none⟩) (Nat.le_refl _) (.slice none 0 0)
      refine bodyPost_ret (v := .tuple #[.agg #[.int .i64 0, .string (str []), .string (str []), .slice none 0 0], .string (str []), .bool false]) ?_ rfl ⟨.inl ⟨rfl, HNO.out⟩, hbE⟩
      rw [results_cell_tmp2 rfl]
      go_simp
      try rfl
end Go.Proofs.YtopnnhjfcfhihaaDoor
