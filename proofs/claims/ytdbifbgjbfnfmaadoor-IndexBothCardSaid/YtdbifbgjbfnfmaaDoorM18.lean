/-
  Texts of the same seat, one behind the other (merged; each says at its head what it is).
-/
import Derived.Test.YtdbifbgjbfnfmaaDoorM14
import Derived.Test.YtdbifbgjbfnfmaaDoorM17
import Derived.Test.YtdbifbgjbfnfmaaDoorM05
import Derived.Test.YtdbifbgjbfnfmaaDoorM01
import Derived.ProofKit
import Derived.OpenShut
import Derived.Deep.Slices
import Derived.Deep.Fields
import Derived.ChangeSame
import Derived.Test.YtdbifbgjbfnfmaaDoorRows
import Derived.Lib.LaidU8T
import Derived.Lib.LaidTab
import Derived.Deep.DeepHandedRow
import Derived.Test.YtdbifbgjbfnfmaaDoorM08
import Derived.Test.YtdbifbgjbfnfmaaDoorM09
import Derived.Test.YtdbifbgjbfnfmaaDoorM03
import Derived.Test.YtdbifbgjbfnfmaaDoorM02
/-
  Layer 7 (index): the program's index, as the laws use it.
-/
namespace Go.Proofs.YtdbifbgjbfnfmaaDoor
open Go.RowKit Go.Deep
set_option linter.unusedVariables false
theorem ixNew_c (w : World) (hE : Env w) : Calls Tryd.prog 31 #[] w fun e w' => (∃ q F, e = .returned (.pointer (some ⟨q, 0, none⟩)) ∧ IsX F q [] w' ∧ ∀ k ∈ F, w.heap.size ≤ k) ∧ Below w.heap.size w w' := ixNewS_c w
theorem ixLen_c (F : List Nat) (q : Nat) (X : Ix) (w : World) (h : IsX F q X w) : Calls Tryd.prog 19 #[.pointer (some ⟨q, 0, none⟩)] w fun e w' => e = .returned (.int .i64 X.length) ∧ Below w.heap.size w w' := by
  refine (ixLenS_c F q X w h).mono ?_
  rintro e w' ⟨he, rfl⟩
  exact ⟨he, Below.refl _ _⟩
theorem maxLen_cell7 {w : World} (hS : w.ShapedOpen Tryd.prog) : ∃ m : Int, w.cell? ⟨0, 0, none⟩ = some (.int .i64 m) ∧ 0 < w.heap.size := by
  obtain ⟨m, hm⟩ := Tryd.laysM145.s1_3 w hS
  exact ⟨m, hm, World.block_lt_of_cell? w _ hm⟩
end Go.Proofs.YtdbifbgjbfnfmaaDoor
/-
  Layer 7 (index): the program's index and the document's, side by side; made of any labels.
-/
namespace Go.Proofs.YtdbifbgjbfnfmaaDoor
open Go.RowKit Go.Deep
set_option linter.unusedVariables false
set_option linter.unusedSimpArgs false
theorem LLAt.nth {w : World} {A : Option Addr} {len cap : Nat} {L : List (List Lab)} (h : LLAt w A len cap L) {i : Nat} (hi : i < L.length) : ∃ ad Ai ci, A = some ad ∧ (ad.add i).block < w.heap.size ∧ w.cell? (ad.add i) = some (.slice Ai L[i].length ci) ∧ LAt w Ai L[i].length L[i] := by
  obtain ⟨ad, Ai, ci, h1, h2, h3, h4, _⟩ := h.2.2 i hi
  exact ⟨ad, Ai, ci, h1, h2, h3, h4⟩
/-- q is the program's index of X, p the document's of Y; all from block B on. -/
def Two7 (B q p : Nat) (X Y : Ix) (w : World) : Prop := ∃ F G, IsX F q X w ∧ RefX G p Y w ∧ (∀ k ∈ F, k ∉ G) ∧ (∀ k ∈ F, B ≤ k) ∧ ∀ k ∈ G, B ≤ k
theorem Two7.below {B q p : Nat} {X Y : Ix} {w w' : World} (h : Two7 B q p X Y w) (hb : Below w.heap.size w w') : Two7 B q p X Y w' := by
  obtain ⟨F, G, h1, h2, h3, h4, h5⟩ := h
  exact ⟨F, G, h1.keeps (G := []) (Keeps.below hb) (by simp), h2.below hb, h3, h4, h5⟩
theorem Two7.good {B q p : Nat} {X Y : Ix} {w : World} (h : Two7 B q p X Y w) : Good X ∧ Good Y := by
  obtain ⟨F, G, h1, h2, _⟩ := h
  exact ⟨h1.good, h2.good⟩
theorem add_two {B q p : Nat} {X Y : Ix} {A : Option Addr} {cap : Nat} {l : List Lab} {w : World} (h : Two7 B q p X Y w) (hB : B ≤ w.heap.size) (hA : LAt w A l.length l) (hs : SmallL l) (hE : Env w) :
    Calls Tryd.prog 17 #[.pointer (some ⟨q, 0, none⟩), .slice A l.length cap] w fun e w' => e = .returned (.tuple #[.int .i64 (addI X l), .int .i64 (addE X l)]) ∧ Two7 B q p (addX X l) Y w' ∧ Below B w w' := by
  obtain ⟨F, G, h1, h2, h3, h4, h5⟩ := h
  refine (ixAdd_c F q X A l.length cap l w h1 hA (by have := hs.1; omega) hs.2 hE).mono ?_
  rintro e w1 ⟨F', rfl, hX, hK, hF⟩
  refine ⟨rfl, ⟨F', G, hX, h2.keeps hK (fun k hk hm => h3 k hm hk), fun k hk hm => ?_, fun k hk => ?_, h5⟩, hK.to hB h4⟩
  · rcases hF k hk with h | h
    · exact h3 k h hm
    · have := h2.lt k hm; omega
  · rcases hF k hk with h | h
    · exact h4 k h
    · omega
theorem radd_two {B q p : Nat} {X Y : Ix} {A : Option Addr} {cap : Nat} {l : List Lab} {w : World} (h : Two7 B q p X Y w) (hB : B ≤ w.heap.size) (hA : LAt w A l.length l) (hs : SmallL l) :
    Calls Tryd.prog 30 #[.pointer (some ⟨p, 0, none⟩), .slice A l.length cap] w fun e w' => e = .returned (.tuple #[.int .i64 (addI Y l), .int .i64 (addE Y l)]) ∧ Two7 B q p X (addX Y l) w' ∧ Below B w w' := by
  obtain ⟨F, G, h1, h2, h3, h4, h5⟩ := h
  refine (refAdd_c G p Y A l.length cap l w h2 hA (by have := hs.1; omega) hs.2).mono ?_
  rintro e w1 ⟨G', rfl, hX, hK, hF⟩
  refine ⟨rfl, ⟨F, G', h1.keeps hK h3, hX, fun k hk hm => ?_, h4, fun k hk => ?_⟩, hK.to hB h5⟩
  · rcases hF k hm with h | h
    · exact h3 k hk h
    · have := h1.lt k hk; omega
  · rcases hF k hk with h | h
    · exact h5 k h
    · omega
/-- What made answers. -/
def MadeOf (X : Ix) (B : Nat) (e : Ending) (w' : World) : Prop := ∃ q p, e = .returned (.tuple #[.pointer (some ⟨q, 0, none⟩), .pointer (some ⟨p, 0, none⟩), .bool true]) ∧ Two7 B q p X X w'
set_option maxRecDepth 100000 in
set_option maxHeartbeats 1000000 in
theorem made_c (A : Option Addr) (len cap : Nat) (L : List (List Lab)) (w : World) (hA : LLAt w A len cap L) (hs : SmallLL L) (hE : Env w) :
    Calls Tryd.prog 11 #[.slice A len cap] w fun e w' => MadeOf (addAll [] L) w.heap.size e w' ∧ Below w.heap.size w w' := by
  have hle := hA.1
  subst hle
  have hl := hs.1
  have HS := Lib.hid hs
  have HE := Lib.hid (fun W (h : Below w.heap.size w W) => hE.below h)
  have CN := Lib.hid (ixNew_c w hE)
  clear hs hE
  go_enter Tryd.func11, Tryd.ntmps11
  go_wp2_with fail
  refine CN.out.mono ?_
  rintro e w1 ⟨⟨q, F, rfl, hX, hF⟩, hb1⟩
  have HX := Lib.hid (And.intro hX hF)
  clear hX hF CN
  go_wp2_with fail
  refine (refNew_c w1).mono ?_
  rintro e w2 ⟨⟨rfl, hR⟩, hb2⟩
  have HT : Hid (Two7 w.heap.size q w1.heap.size [] [] w2) := ⟨F, [w1.heap.size], HX.out.1.keeps (G := []) (Keeps.below hb2) (by simp), hR, fun k hk hm => by simp at hm; have := HX.out.1.lt k hk; omega, HX.out.2, fun k hk => by simp at hk; rw [hk]; exact hb1.size⟩
  have hb2 := below2 hb1 hb2 hb1.size
  obtain ⟨p, hp⟩ : ∃ p, w1.heap.size = p := ⟨_, rfl⟩
  rw [hp] at HT ⊢
  clear hR HX hp hb1
  go_wp2_with fail
  go_loopw [7] (fun c wr => ∃ i : Nat, i ≤ L.length ∧ c = .int .i64 i ∧ Hid (Two7 w.heap.size q p (addAll [] (L.take i)) (addAll [] (L.take i)) wr) ∧ Below w.heap.size w wr) (fun c _ => L.length - (intOf c).toNat)
  case atStart => exact ⟨0, Nat.zero_le _, rfl, HT.out, hb2⟩
  case round =>
    clear HT hb2
    obtain ⟨i, hi, rfl, HT, hb⟩ := hrel
    have hbs := hb.size
    by_cases hlt : i < L.length
    · obtain ⟨ad, Ai, ci, rfl, h2, h3, h4⟩ := hA.nth hlt
      have hg3 := h3
      have h3 := (hb.cell (p := ad.add i) h2).trans hg3
      have hsm := HS.out.2 _ (List.getElem_mem hlt)
      have hst := addAll_take [] L i hlt
      obtain ⟨l, hl2⟩ : ∃ l, L[i]'hlt = l := ⟨_, rfl⟩
      rw [hl2] at h3 hg3 h4 hsm hst
      obtain ⟨X, hX⟩ : ∃ X, addAll [] (L.take i) = X := ⟨_, rfl⟩
      rw [hX] at HT hst
      have HG := Lib.hid (fun (W : World) (hW : Below w.heap.size w W) => (hW.cell (p := ad.add i) h2).trans hg3)
      have HA := Lib.hid (And.intro h4 hsm)
      have HST := Lib.hid hst
      obtain ⟨a, ha⟩ : ∃ a, addI X l = a := ⟨_, rfl⟩
      obtain ⟨b, hbb⟩ : ∃ b, addE X l = b := ⟨_, rfl⟩
      have HAB := Lib.hid (And.intro ha hbb)
      clear hg3 h4 hsm hst hl2 hX ha hbb
      go_wp2_with fail
      refine (add_two HT.out hbs (HA.out.1.below hb) HA.out.2 (HE.out _ hb)).mono ?_
      rintro e w3 ⟨rfl, hT3, hb3⟩
      rw [HAB.out.1, HAB.out.2]
      have HT3 := Lib.hid hT3
      have hb3 := hb.trans hb3
      have h3 := HG.out _ hb3
      clear hT3
      go_wp2_with fail
      refine (radd_two HT3.out hb3.size (HA.out.1.below hb3) HA.out.2).mono ?_
      rintro e w4 ⟨rfl, hT4, hb4⟩
      rw [HAB.out.1, HAB.out.2]
      have HT4 := Lib.hid hT4
      have hb4 := hb3.trans hb4
      have t1 : (a == a) = true := by simp
      have t2 : (b == b) = true := by simp
      clear hT4 h3
      go_wp2_with fail
      go_roundw
      case rel => exact ⟨i + 1, by omega, by go_num, by rw [HST.out]; exact HT4.out, hb4⟩
      case measure => simp [intOf]; omega
    · obtain rfl : i = L.length := by omega
      rw [List.take_length] at HT
      obtain ⟨X, hX⟩ : ∃ X, addAll [] L = X := ⟨_, rfl⟩
      rw [hX] at HT
      have HX := Lib.hid hX
      have CL := Lib.hid HT.out
      obtain ⟨F, G, i1, i2, _⟩ := CL.out
      have LX := Lib.hid (ixLen_c F q X wr i1)
      have LR := Lib.hid (fun W (h : Below wr.heap.size wr W) => refLen_c G p X W (i2.below h))
      clear i1 i2 hX
      go_wp2_with fail
      refine LX.out.mono ?_
      rintro e w3 ⟨rfl, hb3⟩
      go_wp2_with fail
      refine (LR.out _ hb3).mono ?_
      rintro e w4 ⟨rfl, rfl⟩
      have HT5 := Lib.hid (HT.out.below hb3)
      have hb5 := below2 hb hb3 hbs
      have t3 : ((X.length : Int) == (X.length : Int)) = true := by simp
      go_wp2_with fail
      go_ret3
      exact ⟨⟨q, p, rfl, by rw [HX.out]; exact HT5.out⟩, hb5⟩
/-! the calls, of both -/
theorem Two7.mono {B B' q p : Nat} {X Y : Ix} {w : World} (h : Two7 B q p X Y w) (hb : B' ≤ B) : Two7 B' q p X Y w := by
  obtain ⟨F, G, h1, h2, h3, h4, h5⟩ := h
  exact ⟨F, G, h1, h2, h3, fun k hk => Nat.le_trans hb (h4 k hk), fun k hk => Nat.le_trans hb (h5 k hk)⟩
section
variable {B q p : Nat} {X Y : Ix} {w : World}
theorem xlen (h : Two7 B q p X Y w) : Calls Tryd.prog 19 #[.pointer (some ⟨q, 0, none⟩)] w fun e w' => e = .returned (.int .i64 X.length) ∧ Below w.heap.size w w' := by
  obtain ⟨F, G, h1, h2, _⟩ := h; exact ixLen_c F q X w h1
theorem rlen (h : Two7 B q p X Y w) : Calls Tryd.prog 12 #[.pointer (some ⟨p, 0, none⟩)] w fun e w' => e = .returned (.int .i64 Y.length) ∧ Below w.heap.size w w' := by
  obtain ⟨F, G, h1, h2, _⟩ := h
  refine (refLen_c G p Y w h2).mono ?_
  rintro e w1 ⟨rfl, rfl⟩
  exact ⟨rfl, Below.refl _ _⟩
theorem xfind (h : Two7 B q p X Y w) {A : Option Addr} {cap : Nat} {l : List Lab} (hA : LAt w A l.length l) (hs : SmallL l) (hE : Env w) :
    Calls Tryd.prog 16 #[.pointer (some ⟨q, 0, none⟩), .slice A l.length cap] w fun e w' => e = .returned (.tuple #[.int .i64 (idF X l), .bool (isF X l)]) ∧ Below w.heap.size w w' := by
  obtain ⟨F, G, h1, h2, _⟩ := h; exact ixFind_c F q X A l.length cap l w h1 hA (by have := hs.1; omega) hs.2 hE
theorem rfind (h : Two7 B q p X Y w) {A : Option Addr} {cap : Nat} {l : List Lab} (hA : LAt w A l.length l) (hs : SmallL l) :
    Calls Tryd.prog 18 #[.pointer (some ⟨p, 0, none⟩), .slice A l.length cap] w fun e w' => e = .returned (.tuple #[.int .i64 (idF Y l), .bool (isF Y l)]) ∧ Below w.heap.size w w' := by
  obtain ⟨F, G, h1, h2, _⟩ := h; exact refFind_c G p Y A l.length cap l w h2 hA (by have := hs.1; omega)
theorem xlabels (h : Two7 B q p X Y w) {id : Int} (h1 : -9223372036854775808 ≤ id) (h2 : id ≤ 9223372036854775807) :
    Calls Tryd.prog 14 #[.pointer (some ⟨q, 0, none⟩), .int .i64 id] w fun e w' => GivesL (labelsX X id) e w' ∧ Below w.heap.size w w' := by
  obtain ⟨F, G, h3, h4, _⟩ := h; exact ixLabels_c F q X id w h3 h1 h2
theorem rlabels (h : Two7 B q p X Y w) {id : Int} (h1 : -9223372036854775808 ≤ id) (h2 : id ≤ 9223372036854775807) :
    Calls Tryd.prog 15 #[.pointer (some ⟨p, 0, none⟩), .int .i64 id] w fun e w' => GivesL (labelsX Y id) e w' ∧ Below w.heap.size w w' := by
  obtain ⟨F, G, h3, h4, _⟩ := h; exact refLabels_c G p Y id w h4 h1 h2
theorem xselect (h : Two7 B q p X Y w) {A : Option Addr} {len cap : Nat} {ms : List Mat} (hA : MsAt w A len ms) (hm : SmallMs ms) (hE : Env w) :
    Calls Tryd.prog 21 #[.pointer (some ⟨q, 0, none⟩), .slice A len cap] w fun e w' => GivesI (selX X ms) (eM (chkAll ms)) e w' ∧ Below w.heap.size w w' := by
  obtain ⟨F, G, h1, h2, _⟩ := h; exact ixSelect_c F q X A len cap ms w h1 hA hm hE
theorem rselect (h : Two7 B q p X Y w) {A : Option Addr} {len cap : Nat} {ms : List Mat} (hA : MsAt w A len ms) (hm : SmallMs ms) :
    Calls Tryd.prog 22 #[.pointer (some ⟨p, 0, none⟩), .slice A len cap] w fun e w' => GivesI (selX Y ms) (eM (chkAll ms)) e w' ∧ Below w.heap.size w w' := by
  obtain ⟨F, G, h1, h2, _⟩ := h; exact refSelect_c G p Y A len cap ms w h2 hA hm
theorem xencode (h : Two7 B q p X Y w) (hE : Env w) : Calls Tryd.prog 25 #[.pointer (some ⟨q, 0, none⟩)] w fun e w' => e = .returned (.string (str (encX X))) ∧ Below w.heap.size w w' := by
  obtain ⟨F, G, h1, h2, _⟩ := h; exact ixEncode_c F q X w h1 hE
theorem rencode (h : Two7 B q p X Y w) : Calls Tryd.prog 27 #[.pointer (some ⟨p, 0, none⟩)] w fun e w' => e = .returned (.string (str (encX Y))) ∧ Below w.heap.size w w' := by
  obtain ⟨F, G, h1, h2, _⟩ := h; exact refEncode_c G p Y w h2
end
theorem sameL {A A' : Option Addr} {cap cap' : Nat} {l m : List Lab} {w : World} {b : Bool} (hb : decide (l = m) = b) (hl : l.length ≤ 100000) (hm : m.length ≤ 100000) (hA : LAt w A l.length l) (hB : LAt w A' m.length m) :
    Calls Tryd.prog 13 #[.slice A l.length cap, .slice A' m.length cap'] w fun e w' => e = .returned (.bool b) ∧ Below w.heap.size w w' := by
  subst hb
  exact refSame_c A A' l.length m.length cap cap' l m w hl hm hA hB
theorem small_ok {l : List Lab} (h : okL l = true ∨ l = []) : SmallL l := by
  rcases h with h | rfl
  · have := labs_small h; exact ⟨by omega, fun x hx => by have := okL_32 h x hx; omega⟩
  · exact ⟨by simp, by simp⟩
/-! one matcher of none: it may not be -/
def zeroM : Mat := (0, [], [], [])
theorem make_one (w : World) : (Instr.makeSlice 38 (.int .i64 1) (.int .i64 1)).run Tryd.prog w = .ok (.slice (some ⟨w.heap.size, 0, none⟩) 1 1) (w.alloc (.cells #[.int .i64 0, .string ⟨#[]⟩, .string ⟨#[]⟩, .slice none 0 0] 47)) := by kernel_rfl
theorem ms_zero (w : World) : MsAt (w.alloc (.cells #[.int .i64 0, .string ⟨#[]⟩, .string ⟨#[]⟩, .slice none 0 0] 47)) (some ⟨w.heap.size, 0, none⟩) 1 [zeroM] := by
  refine ⟨rfl, fun i hi => ?_⟩
  have h := blk_new w (.cells #[.int .i64 0, .string ⟨#[]⟩, .string ⟨#[]⟩, .slice none 0 0] 47)
  match i, hi with
  | 0, _ => exact ⟨⟨by simp [zeroM], by simp [zeroM], by simp [zeroM], by simp [zeroM], by simp [zeroM]⟩, _, rfl, lt_of_block h, blk_cell h 0, blk_cell h 1, blk_cell h 2, none, 0, blk_cell h 3, StrsAt.nil _ _⟩
theorem zero_small : SmallMs [zeroM] := ⟨by simp, fun m hm => by simp at hm; subst hm; exact ⟨by simp [zeroM], by simp [zeroM], by simp [zeroM], by simp [zeroM]⟩⟩
theorem zero_bad : eM (chkAll [zeroM]) = 50 := by decide +kernel
/-- Select of it. -/
theorem xodd {B q p : Nat} {X Y : Ix} {w : World} (h : Two7 B q p X Y w) (hE : ∀ W, Below w.heap.size w W → Env W) :
    Calls Tryd.prog 21 #[.pointer (some ⟨q, 0, none⟩), .slice (some ⟨w.heap.size, 0, none⟩) 1 1] (w.alloc (.cells #[.int .i64 0, .string ⟨#[]⟩, .string ⟨#[]⟩, .slice none 0 0] 47)) fun e w' => GivesI (selX X [zeroM]) 50 e w' ∧ Below w.heap.size w w' := by
  have hb : Below w.heap.size w (w.alloc (.cells #[.int .i64 0, .string ⟨#[]⟩, .string ⟨#[]⟩, .slice none 0 0] 47)) := (Below.refl _ _).alloc (Nat.le_refl _) _
  have hc := xselect (h.below hb) (cap := 1) (ms_zero w) zero_small (hE _ hb)
  rw [zero_bad] at hc
  exact hc.mono fun e w' hw => ⟨hw.1, below2 hb hw.2 hb.size⟩
theorem sameI {A A' : Option Addr} {cap cap' : Nat} {l m : List Int} {w : World} {b : Bool} (hb : decide (l = m) = b) (hl : l.length ≤ 100000) (hm : m.length ≤ 100000) (hA : NewI 0 (.slice A l.length cap) l w) (hB : NewI 0 (.slice A' m.length cap') m w) :
    Calls Tryd.prog 23 #[.slice A l.length cap, .slice A' m.length cap'] w fun e w' => e = .returned (.bool b) ∧ Below w.heap.size w w' := by
  subst hb
  obtain ⟨_, _, e, hI⟩ := hA.at
  injection e with e1 e2 e3
  subst e1 e3
  obtain ⟨_, _, e, hJ⟩ := hB.at
  injection e with e1 e2 e3
  subst e1 e3
  exact isame_c A A' l.length m.length cap cap' l m w (by omega) (by omega) hI hJ
theorem selX_len {X : Ix} (h : Good X) (ms : List Mat) : (selX X ms).length ≤ 200 := by
  unfold selX
  split
  · have := selN_len X ms X.length; have := h.few; omega
  · simp
end Go.Proofs.YtdbifbgjbfnfmaaDoor
/-
  Layer 7 (index): matchers behind matchers.
-/
namespace Go.Proofs.YtdbifbgjbfnfmaaDoor
open Go.RowKit Go.Deep
attribute [local go_sem] str_size str_append str_toList str_get str_extract
set_option linter.unusedVariables false
set_option linter.unusedSimpArgs false
theorem mat_info7 : (Tryd.prog.info? 47).map (fun i => (i.zero, i.size, i.bytes)) = some (some (.agg #[.int .i64 0, .string (str []), .string (str []), .slice none 0 0]), 4, 64) := by kernel_rfl
/-- A matcher with where its set lies. -/
abbrev MatW := Mat × Option Addr × Nat
def mwC : List MatW → List Value
  | [] => []
  | x :: r => .int .i64 x.1.1 :: .string (str x.1.2.1) :: .string (str x.1.2.2.1) :: .slice x.2.1 x.1.2.2.2.length x.2.2 :: mwC r
theorem mwC_append (l m : List MatW) : mwC (l ++ m) = mwC l ++ mwC m := by
  induction l with
  | nil => rfl
  | cons x r ih => simp [mwC, ih]
theorem mwC_length (l : List MatW) : (mwC l).length = 4 * l.length := by
  induction l with
  | nil => rfl
  | cons x r ih => simp [mwC, ih]; omega
theorem mwC_get (l : List MatW) : ∀ i (h : i < l.length), (mwC l)[4 * i]? = some (.int .i64 l[i].1.1) ∧ (mwC l)[4 * i + 1]? = some (.string (str l[i].1.2.1)) ∧ (mwC l)[4 * i + 2]? = some (.string (str l[i].1.2.2.1)) ∧ (mwC l)[4 * i + 3]? = some (.slice l[i].2.1 l[i].1.2.2.2.length l[i].2.2) := by
  induction l with
  | nil => intro i h; simp at h
  | cons x r ih =>
    intro i h
    cases i with
    | zero => exact ⟨rfl, rfl, rfl, rfl⟩
    | succ i => exact ih i (by simpa using h)
theorem mwC_one (l : List MatW) : ∀ u ∈ mwC l, u.oneCell' = true := by
  induction l with
  | nil => intro u hu; simp [mwC] at hu
  | cons x r ih =>
    intro u hu
    simp only [mwC, List.mem_cons] at hu
    rcases hu with rfl | rfl | rfl | rfl | hu
    · rfl
    · rfl
    · rfl
    · rfl
    · exact ih u hu
def MsV (w : World) (xs : List MatW) : Prop := ∀ x ∈ xs, (x.1.2.1.length ≤ 9223372036854775807 ∧ x.1.2.2.1.length ≤ 9223372036854775807 ∧ x.1.2.2.2.length ≤ 9223372036854775807 ∧ -9223372036854775808 ≤ x.1.1 ∧ x.1.1 ≤ 9223372036854775807) ∧ StrsAt w x.2.1 x.1.2.2.2.length x.1.2.2.2
theorem MsV.append {w : World} {xs ys : List MatW} (h : MsV w xs) (k : MsV w ys) : MsV w (xs ++ ys) := fun x hx => by
  rcases List.mem_append.1 hx with hx | hx
  · exact h x hx
  · exact k x hx
/-- A slice of matchers' cells. -/
theorem ms_vals {w : World} {A : Option Addr} {n : Nat} {ms : List Mat} (h : MsAt w A n ms) : ∃ xs : List MatW, xs.map (·.1) = ms ∧ MsV w xs ∧ (A = none → xs = []) ∧ ∀ W, Below w.heap.size w W → ∀ ad, A = some ad → ∀ j u, (mwC xs)[j]? = some u → W.cell? (ad.add j) = some u := by
  have hn := h.1
  have hall : ∀ i, i < ms.length → ∃ z : Option Addr × Nat, ∃ ad, A = some ad ∧ (ad.add (i * 4)).block < w.heap.size ∧ ∀ hi : i < ms.length, (ms[i].2.1.length ≤ 9223372036854775807 ∧ ms[i].2.2.1.length ≤ 9223372036854775807 ∧ ms[i].2.2.2.length ≤ 9223372036854775807 ∧ -9223372036854775808 ≤ ms[i].1 ∧ ms[i].1 ≤ 9223372036854775807) ∧
      w.cell? (ad.add (i * 4)) = some (.int .i64 ms[i].1) ∧ w.cell? ⟨(ad.add (i * 4)).block, (ad.add (i * 4)).off + 1, none⟩ = some (.string (str ms[i].2.1)) ∧ w.cell? ⟨(ad.add (i * 4)).block, (ad.add (i * 4)).off + 2, none⟩ = some (.string (str ms[i].2.2.1)) ∧
      w.cell? ⟨(ad.add (i * 4)).block, (ad.add (i * 4)).off + 3, none⟩ = some (.slice z.1 ms[i].2.2.2.length z.2) ∧ StrsAt w z.1 ms[i].2.2.2.length ms[i].2.2.2 := by
    intro i hi
    obtain ⟨h1, ad, rfl, h2, h3, h4, h5, S, cap, h6, h7⟩ := h.2 i hi
    exact ⟨(S, cap), ad, rfl, h2, fun _ => ⟨h1, h3, h4, h5, h6, h7⟩⟩
  obtain ⟨f, hf⟩ := choose_lt (α := Option Addr × Nat) hall
  have hx : ∀ i (hi : i < ((List.range ms.length).attach.map fun j => ((ms[j.1]'(List.mem_range.1 j.2), f j.1) : MatW)).length), True := fun _ _ => trivial
  refine ⟨(List.range ms.length).attach.map fun j => (ms[j.1]'(List.mem_range.1 j.2), f j.1), ?_, ?_, ?_, ?_⟩
  · apply List.ext_getElem
    · simp
    · intro i h1 h2; simp
  · intro x hx
    obtain ⟨⟨j, hj⟩, _, rfl⟩ := List.mem_map.1 hx
    have hj2 := List.mem_range.1 hj
    obtain ⟨ad, _, _, hc⟩ := hf j hj2
    have := hc hj2
    exact ⟨this.1, this.2.2.2.2.2⟩
  · intro hA
    rcases Nat.eq_zero_or_pos ms.length with h0 | h0
    · apply List.length_eq_zero_iff.1; simp [h0]
    · obtain ⟨ad, e, _⟩ := hf 0 h0
      rw [hA] at e; cases e
  · intro W hW ad hA j u hu
    have hjl : j < (mwC ((List.range ms.length).attach.map fun j => (ms[j.1]'(List.mem_range.1 j.2), f j.1))).length := (List.getElem?_eq_some_iff.1 hu).1
    rw [mwC_length] at hjl
    simp at hjl
    obtain ⟨i, r, hi, hr, rfl⟩ : ∃ i r, i < ms.length ∧ r < 4 ∧ j = 4 * i + r := ⟨j / 4, j % 4, by omega, by omega, by omega⟩
    obtain ⟨ad', e, hb, hc⟩ := hf i hi
    rw [hA] at e
    injection e with e
    subst e
    obtain ⟨_, c0, c1, c2, c3, _⟩ := hc hi
    have hg := mwC_get ((List.range ms.length).attach.map fun j => ((ms[j.1]'(List.mem_range.1 j.2), f j.1) : MatW)) i (by simpa using hi)
    simp only [List.getElem_map, List.getElem_attach, List.getElem_range] at hg
    have ea : ∀ r, r ≠ 0 → ad.add (4 * i + r) = ⟨(ad.add (i * 4)).block, (ad.add (i * 4)).off + r, none⟩ := by
      intro r hr
      rcases ad with ⟨b, o, s⟩
      have h1 : (⟨b, o, s⟩ : Addr).add (4 * i + r) = ⟨b, o + (4 * i + r), none⟩ := by unfold Addr.add; rw [if_neg (show ¬ 4 * i + r = 0 by omega)]
      rw [h1]
      by_cases h0 : i = 0
      · subst h0; show _ = (⟨b, o + r, none⟩ : Addr); rw [show o + (4 * 0 + r) = o + r by omega]
      · have h2 : (⟨b, o, s⟩ : Addr).add (i * 4) = ⟨b, o + i * 4, none⟩ := by unfold Addr.add; rw [if_neg (show ¬ i * 4 = 0 by omega)]
        rw [h2]; show _ = (⟨b, o + i * 4 + r, none⟩ : Addr); rw [show o + i * 4 + r = o + (4 * i + r) by omega]
    match r, hr with
    | 0, _ =>
      rw [Nat.add_zero, hg.1] at hu
      injection hu with hu
      subst hu
      rw [show 4 * i + 0 = i * 4 by omega]
      exact (hW.cell (p := ad.add (i * 4)) hb).trans c0
    | 1, _ =>
      rw [hg.2.1] at hu
      injection hu with hu
      subst hu
      rw [ea 1 (by omega)]
      exact (hW.cell (p := ⟨(ad.add (i * 4)).block, (ad.add (i * 4)).off + 1, none⟩) hb).trans c1
    | 2, _ =>
      rw [hg.2.2.1] at hu
      injection hu with hu
      subst hu
      rw [ea 2 (by omega)]
      exact (hW.cell (p := ⟨(ad.add (i * 4)).block, (ad.add (i * 4)).off + 2, none⟩) hb).trans c2
    | 3, _ =>
      rw [hg.2.2.2] at hu
      injection hu with hu
      subst hu
      rw [ea 3 (by omega)]
      exact (hW.cell (p := ⟨(ad.add (i * 4)).block, (ad.add (i * 4)).off + 3, none⟩) hb).trans c3
/-- What a row of matchers of the call's own is to others. -/
theorem row_ms {B n cap : Nat} {A : Option Addr} {xs : List MatW} {w w0 : World} (h : w.ownsRow B 47 4 (.slice A n cap) n (mwC xs)) (hn : n = xs.length) (hV : MsV w0 xs) (hb : Below w0.heap.size w0 w) : MsAt w A n (xs.map (·.1)) := by
  refine ⟨by rw [List.length_map]; exact hn, fun i hi => ?_⟩
  have hil : i < xs.length := by simpa using hi
  have e : (xs.map (·.1))[i] = xs[i].1 := by simp
  rw [e]
  have hv := hV _ (List.getElem_mem hil)
  refine ⟨hv.1, ?_⟩
  rcases h.2 with ⟨e, h0⟩ | ⟨g, c, cur, e, hg, hbl, _⟩
  · omega
  · injection e with e1 e2 e3
    subst e1
    obtain ⟨c0, c1, c2, c3⟩ := mwC_get xs i hil
    have h0 := h.cellAt (4 * i) (by omega)
    have h1 := h.cellAt (4 * i + 1) (by omega)
    have h2 := h.cellAt (4 * i + 2) (by omega)
    have h3 := h.cellAt (4 * i + 3) (by omega)
    rw [c0] at h0
    rw [c1] at h1
    rw [c2] at h2
    rw [c3] at h3
    have ea : (⟨g, 0, none⟩ : Addr).add (i * 4) = ⟨g, 4 * i, none⟩ := by
      unfold Addr.add
      split <;> simp_all <;> omega
    refine ⟨_, rfl, ?_, ?_, ?_, ?_, xs[i].2.1, xs[i].2.2, ?_, ?_⟩
    · rw [ea]; exact lt_of_block hbl
    · rw [ea]; exact h0
    · rw [ea]; exact h1
    · rw [ea]; exact h2
    · rw [ea]; exact h3
    · exact hv.2.below hb
theorem made_ms (w : World) : (w.alloc (.cells #[] 47)).ownsRow w.heap.size 47 4 (.slice (some ⟨w.heap.size, 0, none⟩) 0 0) 0 (mwC []) :=
  World.ownsRow_made (e := 47) (size := 4) w #[] 0 (Nat.le_refl _) (by unfold maxLen; omega) rfl
set_option maxRecDepth 100000 in
theorem app_ms {w : World} {ops : Array Oper} {rest : List Oper} {o : Oper} {a : Act} {Q : Exit → Act → World → Prop} (hgd : o.guard = none) (s x : Operand)
    (ho : o.op = .call { callee := .builtin .append, args := #[s, x], argTypes := #[38, 38] })
    (base : Nat) (A0 : Option Addr) (n cap0 : Nat) (xs : List MatW) (hs : a.eval s = .slice A0 n cap0) (hown : w.ownsRow base 47 4 (.slice A0 n cap0) n (mwC xs))
    (A : Option Addr) (m c : Nat) (ys : List MatW) (hx : a.eval x = .slice A m c) (hm : m = ys.length) (hnil : A = none → ys = []) (hcells : ∀ ad, A = some ad → ∀ j u, (mwC ys)[j]? = some u → w.cell? (ad.add j) = some u) (h63 : n + m ≤ 1000) (hbase : base ≤ w.heap.size)
    (h : ∀ A' cap' w', w'.ownsRow base 47 4 (.slice A' (n + m) cap') (n + m) (mwC (xs ++ ys)) → Below base w w' → wpList Tryd.prog ops Q rest (a.put o.dst (.slice A' (n + m) cap')) w') :
    wpList Tryd.prog ops Q (o :: rest) a w := by
  obtain ⟨i0, hi0, hz0, hz1, hz2⟩ := info_parts mat_info7
  rw [mwC_append] at h
  rcases A with _ | ad
  · have hL := hnil rfl
    subst hL
    have hm0 : m = 0 := by simpa using hm
    subst hm0
    have hrun : (Builtin.append_ #[38, 38] o.type #[.slice A0 n cap0, .slice none 0 c]).run Tryd.prog w = .ok (.slice A0 n cap0) w := by
      rcases hown.2 with ⟨e, rfl⟩ | ⟨g, cap, cur, e, _, _, hnc, _⟩
      · injection e with e1 e2 e3
        subst e1 e3
        simp [Builtin.append_, run_underlying Tryd.underlying38, sizeOf, typeInfo, hi0, Builtin.lenOf, Builtin.firstCells]
      · injection e with e1 e2 e3
        subst e1 e3
        simp [Builtin.append_, run_underlying Tryd.underlying38, sizeOf, typeInfo, hi0, Builtin.lenOf, Builtin.firstCells, hnc, storeCells]
    refine wpList_plain hgd fun K hK => ?_
    unfold Oper.wp execOp
    simp only [ho, resolve, invoke, builtin, Sem.run_bind, Sem.run_pure, Result.andThen_ok, List.map_toArray, List.map_cons, List.map_nil, hs, hx, hrun]
    exact hK _ _ (h A0 cap0 w (by simpa [mwC] using hown) (Below.refl _ _))
  · refine wpList_append_own_at _ hgd s x 38 ho base 47 i0 (.agg #[.int .i64 0, .string (str []), .string (str []), .slice none 0 0]) 4 64 Tryd.underlying38 hi0 hz0 hz1 hz2 rfl (by decide) (.slice A0 n cap0) n _ hs hown ad m c (mwC ys) hx (by rw [mwC_length, ← hm, Nat.mul_comm]) (hcells ad rfl) (mwC_one ys) (by unfold maxLen; omega) (by omega) hbase ?_
    intro v' w' h1 h2 _ _
    obtain ⟨A', cap', rfl⟩ := row_slice h1
    exact h A' cap' w' h1 ((Below.refl base w).grown h2 hbase (fun k hk => (hown.lt k hk).1))
end Go.Proofs.YtdbifbgjbfnfmaaDoor
/-
  An argument that is a slice of labels: its cells, read off what the statement gives.
-/
namespace Go.Proofs.YtdbifbgjbfnfmaaDoor
open Go.ChangeShapes Go.WideShapes Go.ChangeAt Go.RowKit Go.Deep

theorem lab_str : Tryd.prog.cellsOf 9 = 1 := by kernel_rfl
section
variable {H : Type} {enc : TypeId × Value → H} {w : World} {base : Nat} {spare : Nat → Bool} {held : Bool}
set_option maxRecDepth 100000 in
/-- One label's two cells. -/
theorem open_lab {fuel : Nat} {cs : List Value} {x : DataW H × List MemPlace} (h : DataW.trod enc Tryd.prog w base spare held fuel 60 cs = some x) :
    ∃ (a k : List UInt8), cs = [.string (str a), .string (str k)] ∧ a.length ≤ 9223372036854775807 ∧ k.length ≤ 9223372036854775807 := by
  obtain ⟨ys, m, _, _, hlen, hyl, hf⟩ := DataW.trod_struct Tryd.underlying60 h
  rw [lab_cells] at hlen
  match cs, hlen with
  | [c0, c1], _ =>
    match ys, hyl with
    | [y0, y1], _ =>
      have h0 : DataW.trod enc Tryd.prog w base spare held m 9 (([c0, c1].drop 0).take (Tryd.prog.cellsOf 9)) = some y0 := hf 0 _ rfl
      have h1 : DataW.trod enc Tryd.prog w base spare held m 9 (([c0, c1].drop 1).take (Tryd.prog.cellsOf 9)) = some y1 := hf 1 _ rfl
      rw [lab_str] at h0 h1
      obtain ⟨a, e0, _, w0⟩ := DataW.trod_string Tryd.underlying9 h0
      obtain ⟨k, e1, _, w1⟩ := DataW.trod_string Tryd.underlying9 h1
      obtain ⟨a, rfl⟩ := str_of a
      obtain ⟨k, rfl⟩ := str_of k
      rw [str_size] at w0 w1
      unfold maxLen at w0 w1
      simp at e0 e1
      subst e0 e1
      exact ⟨a, k, rfl, by omega, by omega⟩
theorem open_labs {fuel : Nat} {a0 : Option Addr} {len cap : Nat} {x : DataW H × List MemPlace} (h : DataW.trod enc Tryd.prog w base spare held fuel 23 [.slice a0 len cap] = some x) :
    ∃ zs, LAt w a0 len zs ∧ len ≤ maxLen := by
  rcases open_slice Tryd.underlying23 h with ⟨e, _⟩ | ⟨a, l, c, m, n, D, Pl, e, _, hlc, hcm, hm, _, hx⟩
  · simp at e
    obtain ⟨rfl, rfl, rfl⟩ := e
    exact ⟨[], ⟨rfl, fun i h => by simp at h⟩, Nat.zero_le _⟩
  · simp at e
    obtain ⟨rfl, rfl, rfl⟩ := e
    have hlm : len ≤ m := by rw [hm]; split <;> omega
    have hall : ∀ i, i < len → ∃ z : Lab, z.1.length ≤ 9223372036854775807 ∧ z.2.length ≤ 9223372036854775807 ∧
        (a.add (i * 2)).block < w.heap.size ∧ w.cell? (a.add (i * 2)) = some (.string (str z.1)) ∧ w.cell? ⟨(a.add (i * 2)).block, (a.add (i * 2)).off + 1, none⟩ = some (.string (str z.2)) := by
      intro i hi
      obtain ⟨cs', hc, ht⟩ := hx i (by omega)
      obtain ⟨ka, kk, rfl, b1, b2⟩ := open_lab ht
      rw [lab_cells] at hc
      obtain ⟨_, _, hat⟩ := World.cells?_some hc
      have c0 := hat 0 (by omega)
      have c1 := hat 1 (by omega)
      exact ⟨(ka, kk), b1, b2, World.block_lt_of_cell? w _ c0, c0, c1⟩
    obtain ⟨f, hf⟩ := choose_lt (α := Lab) hall
    refine ⟨(List.range len).map f, ⟨by simp, fun i h => ?_⟩, by omega⟩
    have hi : i < len := by simpa using h
    have := hf i hi
    simp only [List.getElem_map, List.getElem_range]
    exact ⟨⟨this.1, this.2.1⟩, a, rfl, this.2.2⟩
end
end Go.Proofs.YtdbifbgjbfnfmaaDoor
/-
  An argument that is a slice of slices of labels: its cells, read off what the statement gives.
-/
namespace Go.Proofs.YtdbifbgjbfnfmaaDoor
open Go.ChangeShapes Go.WideShapes Go.ChangeAt Go.RowKit Go.Deep
set_option linter.unusedVariables false
theorem one_labs : Tryd.prog.cellsOf 23 = 1 := by kernel_rfl
section
variable {H : Type} {enc : TypeId × Value → H} {w : World} {base : Nat} {spare : Nat → Bool} {held : Bool}
theorem open_labs0 {fuel : Nat} {v : Value} {x : DataW H × List MemPlace} (h : DataW.trod enc Tryd.prog w base spare held fuel 23 [v] = some x) :
    ∃ A n c zs, v = .slice A n c ∧ LAt w A n zs ∧ n ≤ maxLen := by
  rcases open_slice Tryd.underlying23 h with ⟨e, _⟩ | ⟨a, l, c, m, n, D, Pl, e, _⟩
  · simp at e
    subst e
    obtain ⟨zs, h1, h2⟩ := open_labs h
    exact ⟨none, 0, 0, zs, rfl, h1, h2⟩
  · simp at e
    subst e
    obtain ⟨zs, h1, h2⟩ := open_labs h
    exact ⟨some a, l, c, zs, rfl, h1, h2⟩
theorem open_lls {fuel : Nat} {a0 : Option Addr} {len cap : Nat} {x : DataW H × List MemPlace} (h : DataW.trod enc Tryd.prog w base spare held fuel 22 [.slice a0 len cap] = some x) :
    ∃ zs, LLAt w a0 len cap zs ∧ len ≤ maxLen := by
  rcases open_slice1 Tryd.underlying22 one_labs h with ⟨e, _⟩ | ⟨a, l, c, m, n, V, D, Pl, e, _, hlc, hcm, hm, _, hx⟩
  · simp at e
    obtain ⟨rfl, rfl, rfl⟩ := e
    exact ⟨[], ⟨rfl, Nat.le_refl _, fun i h => by simp at h⟩, Nat.zero_le _⟩
  · simp at e
    obtain ⟨rfl, rfl, rfl⟩ := e
    have hlm : len ≤ m := by rw [hm]; split <;> omega
    have hall : ∀ i, i < len → ∃ z : List Lab, ∃ Ai ci, (a.add i).block < w.heap.size ∧ w.cell? (a.add i) = some (.slice Ai z.length ci) ∧ LAt w Ai z.length z ∧ z.length ≤ maxLen := by
      intro i hi
      obtain ⟨hc, ht⟩ := hx i (by omega)
      obtain ⟨A, n', c', zs, e, hI, hn⟩ := open_labs0 ht
      have hle := hI.1
      subst hle
      rw [e] at hc
      exact ⟨zs, A, c', World.block_lt_of_cell? w _ hc, hc, hI, hn⟩
    obtain ⟨f, hf⟩ := choose_lt (α := List Lab) hall
    refine ⟨(List.range len).map f, ⟨by simp, hlc, fun i h => ?_⟩, by omega⟩
    have hi : i < len := by simpa using h
    obtain ⟨Ai, ci, h1, h2, h3, h4⟩ := hf i hi
    simp only [List.getElem_map, List.getElem_range]
    exact ⟨a, Ai, ci, rfl, h1, h2, h3, h4⟩
end
end Go.Proofs.YtdbifbgjbfnfmaaDoor
/-
  An argument that is a slice of strings: its cells, read off what the statement gives.
-/
namespace Go.Proofs.YtdbifbgjbfnfmaaDoor
open Go.ChangeShapes Go.WideShapes Go.ChangeAt Go.RowKit Go.Deep

theorem one_str : Tryd.prog.cellsOf 9 = 1 := by kernel_rfl
section
variable {H : Type} {enc : TypeId × Value → H} {w : World} {base : Nat} {spare : Nat → Bool} {held : Bool}
theorem open_strs {fuel : Nat} {a0 : Option Addr} {len cap : Nat} {x : DataW H × List MemPlace} (h : DataW.trod enc Tryd.prog w base spare held fuel 45 [.slice a0 len cap] = some x) :
    ∃ zs, StrsAt w a0 len zs ∧ len ≤ maxLen := by
  rcases open_slice Tryd.underlying45 h with ⟨e, _⟩ | ⟨a, l, c, m, n, D, Pl, e, _, hlc, hcm, hm, _, hx⟩
  · simp at e
    obtain ⟨rfl, rfl, rfl⟩ := e
    exact ⟨[], ⟨rfl, fun i h => by simp at h⟩, Nat.zero_le _⟩
  · simp at e
    obtain ⟨rfl, rfl, rfl⟩ := e
    have hlm : len ≤ m := by rw [hm]; split <;> omega
    have hall : ∀ i, i < len → ∃ z : List UInt8, z.length ≤ 9223372036854775807 ∧ (a.add i).block < w.heap.size ∧ w.cell? (a.add i) = some (.string (str z)) := by
      intro i hi
      obtain ⟨cs', hc, ht⟩ := hx i (by omega)
      rw [one_str, Nat.mul_one] at hc
      obtain ⟨hlen, _, hat⟩ := World.cells?_some hc
      match cs', hlen with
      | [c0], _ =>
        obtain ⟨s, e0, _, w0⟩ := DataW.trod_string Tryd.underlying9 ht
        obtain ⟨s, rfl⟩ := str_of s
        rw [str_size] at w0
        unfold maxLen at w0
        simp at e0
        subst e0
        have c0 := hat 0 (by omega)
        exact ⟨s, by omega, World.block_lt_of_cell? w _ c0, c0⟩
    obtain ⟨f, hf⟩ := choose_lt (α := List UInt8) hall
    refine ⟨(List.range len).map f, ⟨by simp, fun i h => ?_⟩, by omega⟩
    have hi : i < len := by simpa using h
    have := hf i hi
    simp only [List.getElem_map, List.getElem_range]
    exact ⟨this.1, a, rfl, this.2⟩
end
end Go.Proofs.YtdbifbgjbfnfmaaDoor
/-
  An argument that is a slice of matchers: its cells, read off what the statement gives.
-/
namespace Go.Proofs.YtdbifbgjbfnfmaaDoor
open Go.ChangeShapes Go.WideShapes Go.ChangeAt Go.RowKit Go.Deep

theorem mat_cells : Tryd.prog.cellsOf 47 = 4 := by kernel_rfl
theorem mat_int : Tryd.prog.cellsOf 3 = 1 := by kernel_rfl
theorem mat_set : Tryd.prog.cellsOf 45 = 1 := by kernel_rfl
theorem i64_of {a : Int} (h : (Lit.int .i64 a).wf = true) : -9223372036854775808 ≤ a ∧ a ≤ 9223372036854775807 := by
  have e : IntKind.i64.min = -9223372036854775808 := by decide
  unfold Lit.wf at h
  simp at h
  omega
section
variable {H : Type} {enc : TypeId × Value → H} {w : World} {base : Nat} {spare : Nat → Bool} {held : Bool}
set_option maxRecDepth 100000 in
/-- One matcher's four cells. -/
theorem open_mat {fuel : Nat} {cs : List Value} {x : DataW H × List MemPlace} (h : DataW.trod enc Tryd.prog w base spare held fuel 47 cs = some x) :
    ∃ (m : Mat) (S : Option Addr) (cap : Nat), cs = [.int .i64 m.1, .string (str m.2.1), .string (str m.2.2.1), .slice S m.2.2.2.length cap] ∧
      (m.2.1.length ≤ 9223372036854775807 ∧ m.2.2.1.length ≤ 9223372036854775807 ∧ m.2.2.2.length ≤ 9223372036854775807 ∧ -9223372036854775808 ≤ m.1 ∧ m.1 ≤ 9223372036854775807) ∧ StrsAt w S m.2.2.2.length m.2.2.2 := by
  obtain ⟨ys, fu, _, _, hlen, hyl, hf⟩ := DataW.trod_struct Tryd.underlying47 h
  rw [mat_cells] at hlen
  match cs, hlen with
  | [c0, c1, c2, c3], _ =>
    match ys, hyl with
    | [y0, y1, y2, y3], _ =>
      have h0 : DataW.trod enc Tryd.prog w base spare held fu 3 (([c0, c1, c2, c3].drop 0).take (Tryd.prog.cellsOf 3)) = some y0 := hf 0 _ rfl
      have h1 : DataW.trod enc Tryd.prog w base spare held fu 9 (([c0, c1, c2, c3].drop 1).take (Tryd.prog.cellsOf 9)) = some y1 := hf 1 _ rfl
      have h2 : DataW.trod enc Tryd.prog w base spare held fu 9 (([c0, c1, c2, c3].drop 2).take (Tryd.prog.cellsOf 9)) = some y2 := hf 2 _ rfl
      have h3 : DataW.trod enc Tryd.prog w base spare held fu 45 (([c0, c1, c2, c3].drop 3).take (Tryd.prog.cellsOf 45)) = some y3 := hf 3 _ rfl
      rw [mat_int] at h0
      rw [one_str] at h1 h2
      rw [mat_set] at h3
      obtain ⟨k, e0, _, w0⟩ := DataW.trod_int Tryd.underlying3 h0
      obtain ⟨n, e1, _, w1⟩ := DataW.trod_string Tryd.underlying9 h1
      obtain ⟨v, e2, _, w2⟩ := DataW.trod_string Tryd.underlying9 h2
      obtain ⟨n, rfl⟩ := str_of n
      obtain ⟨v, rfl⟩ := str_of v
      rw [str_size] at w1 w2
      unfold maxLen at w1 w2
      have hs : ∃ S len cap, c3 = .slice S len cap := by
        rcases open_slice Tryd.underlying45 h3 with ⟨e, _⟩ | ⟨a, l, c, m, n, D, Pl, e, _⟩
        · simp at e; exact ⟨_, _, _, e⟩
        · simp at e; exact ⟨_, _, _, e⟩
      obtain ⟨S, len, cap, rfl⟩ := hs
      obtain ⟨zs, hz, hl⟩ := open_strs (cap := cap) (a0 := S) (len := len) (by simpa using h3)
      obtain ⟨b0, b1⟩ := i64_of w0
      simp at e0 e1 e2
      subst e0 e1 e2
      have := hz.1
      subst this
      unfold maxLen at hl
      exact ⟨(k, n, v, zs), S, cap, rfl, ⟨by omega, by omega, by omega, b0, b1⟩, hz⟩
theorem open_mats {fuel : Nat} {a0 : Option Addr} {len cap : Nat} {x : DataW H × List MemPlace} (h : DataW.trod enc Tryd.prog w base spare held fuel 38 [.slice a0 len cap] = some x) :
    ∃ zs, MsAt w a0 len zs ∧ len ≤ maxLen := by
  rcases open_slice Tryd.underlying38 h with ⟨e, _⟩ | ⟨a, l, c, m, n, D, Pl, e, _, hlc, hcm, hm, _, hx⟩
  · simp at e
    obtain ⟨rfl, rfl, rfl⟩ := e
    exact ⟨[], ⟨rfl, fun i h => by simp at h⟩, Nat.zero_le _⟩
  · simp at e
    obtain ⟨rfl, rfl, rfl⟩ := e
    have hlm : len ≤ m := by rw [hm]; split <;> omega
    have hall : ∀ i, i < len → ∃ z : Mat, (z.2.1.length ≤ 9223372036854775807 ∧ z.2.2.1.length ≤ 9223372036854775807 ∧ z.2.2.2.length ≤ 9223372036854775807 ∧ -9223372036854775808 ≤ z.1 ∧ z.1 ≤ 9223372036854775807) ∧
        (a.add (i * 4)).block < w.heap.size ∧ w.cell? (a.add (i * 4)) = some (.int .i64 z.1) ∧ w.cell? ⟨(a.add (i * 4)).block, (a.add (i * 4)).off + 1, none⟩ = some (.string (str z.2.1)) ∧
        w.cell? ⟨(a.add (i * 4)).block, (a.add (i * 4)).off + 2, none⟩ = some (.string (str z.2.2.1)) ∧ ∃ S cap, w.cell? ⟨(a.add (i * 4)).block, (a.add (i * 4)).off + 3, none⟩ = some (.slice S z.2.2.2.length cap) ∧ StrsAt w S z.2.2.2.length z.2.2.2 := by
      intro i hi
      obtain ⟨cs', hc, ht⟩ := hx i (by omega)
      obtain ⟨z, S, cp, rfl, b, hS⟩ := open_mat ht
      rw [mat_cells] at hc
      obtain ⟨_, _, hat⟩ := World.cells?_some hc
      have c0 := hat 0 (by omega)
      have c1 := hat 1 (by omega)
      have c2 := hat 2 (by omega)
      have c3 := hat 3 (by omega)
      exact ⟨z, b, World.block_lt_of_cell? w _ c0, c0, c1, c2, S, cp, c3, hS⟩
    obtain ⟨f, hf⟩ := choose_lt (α := Mat) hall
    refine ⟨(List.range len).map f, ⟨by simp, fun i h => ?_⟩, by omega⟩
    have hi : i < len := by simpa using h
    have := hf i hi
    simp only [List.getElem_map, List.getElem_range]
    exact ⟨this.1, a, rfl, this.2⟩
end
end Go.Proofs.YtdbifbgjbfnfmaaDoor
/-
  What the listed variables' data say of their cells: the two tables of unicode/utf8. A world that holds them.
-/
namespace Go.Proofs.YtdbifbgjbfnfmaaDoor
open Go.RowKit

theorem first_eq : Rows.laid_unicode_utf8_first = Lib.firstData := by kernel_rfl
theorem accept_eq : (Rows.laid_unicode_utf8_acceptRanges : DataW Unit) = Lib.acceptData := by kernel_rfl
def laidAll : List (String × DataW Unit) := [("unicode/utf8.acceptRanges", Rows.laid_unicode_utf8_acceptRanges), ("unicode/utf8.first", Rows.laid_unicode_utf8_first)]
theorem laidAll_met {W : World} (h : laidMetH Tryd.prog laidAll W) : laidMet Tryd.prog laidAll W := h
theorem tabs {W : World} (h : laidMetH Tryd.prog laidAll W) : Lib.Utf8Tabs 1 2 W := by
  have hL := laidAll_met h
  have h4 := Lib.laidMet.reads hL (.head _)
  have h3 := Lib.laidMet.reads hL (.tail _ (.head _))
  rw [accept_eq] at h4
  rw [first_eq] at h3
  exact utf8Tabs_of_readsT (U8Types.of260 Tryd.lays260) ⟨by kernel_rfl, by kernel_rfl, by kernel_rfl, by kernel_rfl, by kernel_rfl, by kernel_rfl, by kernel_rfl⟩ h3 h4
def firstCells : Array Value := (Lib.firstTab.map (Value.int .u8)).toArray
def acceptCells : Array Value := ((List.range 16).flatMap fun i => [Value.int .u8 (Lib.accLo i : Int), .int .u8 (Lib.accHi i : Int)]).toArray
/-- A block with these cells. -/
def withCells (cs : Array Value) : Obj → Obj
  | .cells _ t frozen => .cells cs t frozen
  | o => o
/-- A world that holds the two tables. -/
noncomputable def laidWorld (os : Os) : World :=
  { World.holding Tryd.prog os ⟨#[], #[], []⟩ with heap := ((World.holding Tryd.prog os ⟨#[], #[], []⟩).heap.modify 1 (withCells firstCells)).modify 2 (withCells acceptCells) }
end Go.Proofs.YtdbifbgjbfnfmaaDoor
/-
  Layer 4 (label): how the document's own Parse takes a text apart, plain. No program is named.
-/
namespace Go.Proofs.YtdbifbgjbfnfmaaDoor
open Go.RowKit Go.Deep
set_option linter.unusedVariables false

theorem cutE_none {s : List UInt8} (h : ∀ c ∈ s, c.toNat ≠ 61) : cutE s = none := by
  induction s with
  | nil => rfl
  | cons c s ih =>
    rw [cutE, if_neg (h c (by simp)), ih (fun x hx => h x (by simp [hx]))]
theorem cutE_at {s : List UInt8} {a k : Nat} (hak : a ≤ k) (hk : k < s.length) (hc : (s[k]'hk).toNat = 61) (h : ∀ j (hj : j < s.length), a ≤ j → j < k → (s[j]'hj).toNat ≠ 61) : cutE (s.drop a) = some ((s.drop a).take (k - a), s.drop (k + 1)) := by
  have e : s.drop a = (s.drop a).take (k - a) ++ 61 :: s.drop (k + 1) := by
    have e1 : (s.drop a).drop (k - a) = s.drop k := by rw [List.drop_drop]; congr 1; omega
    have e2 : s.drop k = 61 :: s.drop (k + 1) := by
      rw [List.drop_eq_getElem_cons hk]
      congr 1
      exact u8_eq hc
    rw [← e2, ← e1, List.take_append_drop]
  have hn : ∀ c ∈ (s.drop a).take (k - a), c.toNat ≠ 61 := by
    intro c hcm
    obtain ⟨i, hi, rfl⟩ := List.getElem_of_mem hcm
    rw [List.length_take, List.length_drop] at hi
    have := h (a + i) (by omega) (by omega) (by omega)
    simpa using this
  have := cutE_name (r := s.drop (k + 1)) hn
  rw [← e] at this
  exact this
theorem cutE_end {s : List UInt8} {a : Nat} (h : ∀ j (hj : j < s.length), a ≤ j → j < s.length → (s[j]'hj).toNat ≠ 61) : cutE (s.drop a) = none := by
  apply cutE_none
  intro c hc
  obtain ⟨i, hi, rfl⟩ := List.getElem_of_mem hc
  rw [List.length_drop] at hi
  have := h (a + i) (by omega) (by omega) (by omega)
  simpa using this
/-- The only labels of which s could still be the text: acc, and those that stand from place a on. -/
def GoesR (s : List UInt8) (acc : List Lab) (a : Nat) : Prop := ∀ L, okL L = true → printL L = s → ∃ r, L = acc ++ r ∧ ((r = [] ∧ s.length ≤ a) ∨ (r ≠ [] ∧ s.drop a = printB r ++ [125]))
theorem GoesR.start {s : List UInt8} (h : s ≠ [123, 125]) : GoesR s [] 1 := by
  rintro L hL rfl
  refine ⟨L, rfl, .inr ⟨?_, by simp [printL]⟩⟩
  rintro rfl
  exact h rfl
theorem GoesR.done {s : List UInt8} {acc : List Lab} {a : Nat} (h : GoesR s acc a) (ha : s.length ≤ a) : ∀ L, okL L = true → printL L = s → L = acc := by
  intro L hL hs
  obtain ⟨r, h1, h2 | h2⟩ := h L hL hs
  · rw [h1, h2.1]; simp
  · have := h2.2
    rw [List.drop_eq_nil_of_le ha] at this
    have := congrArg List.length this
    simp at this
theorem GoesR.more {s : List UInt8} {acc : List Lab} {a : Nat} (h : GoesR s acc a) (ha : a < s.length) : ∀ L, okL L = true → printL L = s → ∃ x r, L = acc ++ x :: r ∧ cutE (s.drop a) = some (x.1, quoteL x.2 ++ (tailB r ++ [125])) := by
  intro L hL hs
  obtain ⟨r, h1, h2 | h2⟩ := h L hL hs
  · omega
  · cases r with
    | nil => exact absurd rfl h2.1
    | cons x r =>
      have hx : nameL x.1 = true := (okL_mem hL x (by rw [h1]; simp)).1
      refine ⟨x, r, h1, ?_⟩
      rw [h2.2, printB_cons]
      have e : x.1 ++ 61 :: 34 :: (quoteB x.2 ++ 34 :: tailB r) ++ [125] = x.1 ++ 61 :: (quoteL x.2 ++ (tailB r ++ [125])) := by simp [quoteL]
      rw [e]
      exact cutE_name (nameL_61 hx)
theorem GoesR.noCut {s : List UInt8} {acc : List Lab} {a : Nat} (h : GoesR s acc a) (ha : a < s.length) (hc : cutE (s.drop a) = none) : ∀ L, okL L = true → printL L ≠ s := by
  intro L hL hs
  obtain ⟨x, r, _, h2⟩ := h.more ha L hL hs
  rw [hc] at h2; cases h2
theorem GoesR.noQuote {s : List UInt8} {acc : List Lab} {a : Nat} {n b : List UInt8} (h : GoesR s acc a) (ha : a < s.length) (hc : cutE (s.drop a) = some (n, b)) (hq : (quotedL b).2 = 0) : ∀ L, okL L = true → printL L ≠ s := by
  intro L hL hs
  obtain ⟨x, r, _, h2⟩ := h.more ha L hL hs
  rw [hc] at h2
  injection h2 with h2
  injection h2 with _ h2
  rw [h2, quotedL_quote] at hq
  simp [quoteL] at hq
theorem GoesR.step {s : List UInt8} {acc : List Lab} {a k : Nat} {n : List UInt8} (h : GoesR s acc a) (ha : a < s.length) (hk : k < s.length) (hc : cutE (s.drop a) = some (n, s.drop (k + 1))) : GoesR s (acc ++ [(n, (quotedL (s.drop (k + 1))).1)]) (k + 1 + (quotedL (s.drop (k + 1))).2 + 1) := by
  intro L hL hs
  obtain ⟨x, r, h1, h2⟩ := h.more ha L hL hs
  rw [hc] at h2
  injection h2 with h2
  injection h2 with h3 h4
  have hq := quotedL_quote x.2 (tailB r ++ [125])
  rw [← h4] at hq
  rw [hq]
  simp only
  have hd : s.drop (k + 1 + (quoteL x.2).length) = tailB r ++ [125] := by
    rw [← List.drop_drop, h4, List.drop_left]
  refine ⟨r, by rw [h1, h3]; simp, ?_⟩
  have hd2 : s.drop (k + 1 + (quoteL x.2).length + 1) = (tailB r ++ [125]).drop 1 := by rw [← hd, List.drop_drop]
  cases r with
  | nil =>
    refine .inl ⟨rfl, ?_⟩
    have := congrArg List.length hd
    simp [tailB] at this
    omega
  | cons y r =>
    refine .inr ⟨by simp, ?_⟩
    rw [hd2]
    simp [tailB, printB]
theorem quotedL_le (s : List UInt8) : (quotedL s).2 ≤ s.length ∧ (quotedL s).1.length ≤ s.length := by
  cases s with
  | nil => simp [quotedL]
  | cons c r =>
    simp only [quotedL]
    split
    · cases hs : scan r with
      | none => simp
      | some x =>
        obtain ⟨v, b⟩ := x
        have := scan_len _ _ _ _ (Nat.le_refl _) hs
        simp; omega
    · simp
end Go.Proofs.YtdbifbgjbfnfmaaDoor
/-
  Layer 4 (label): what the document's own Parse returns; all that was in memory stays.
-/
namespace Go.Proofs.YtdbifbgjbfnfmaaDoor
open Go.RowKit Go.Deep
attribute [local go_sem] str_size str_append str_toList str_get str_extract
set_option linter.unusedVariables false
set_option linter.unusedSimpArgs false
theorem printL_empty : okL [] = true ∧ printL [] = [123, 125] := by
  constructor
  · rfl
  · rfl
set_option maxHeartbeats 4000000 in
theorem refParse_c (s : List UInt8) (w : World) (hs : s.length ≤ 4096) :
    Calls Tryd.prog 53 #[.string (str s)] w fun e w' => Parsed (parseL s) e w' ∧ Below w.heap.size w w' := by
  obtain ⟨i0, hi0, hz0, hz1, hz2⟩ := info_parts lab_info
  obtain ⟨R, hR⟩ : ∃ R, parseL s = R := ⟨_, rfl⟩
  rw [hR]
  have HR := Lib.hid hR
  clear hR
  by_cases h2 : s = [123, 125]
  · have e : parseL s = some [] := parseL_some printL_empty.1 (by rw [h2]; exact printL_empty.2)
    rw [HR.out] at e
    subst e
    subst h2
    have HZ : Hid (∀ w' : World, LAt w' (some ⟨w.heap.size, 0, none⟩) 0 []) := fun w' => LAt.nil _ _
    go_enter Tryd.func53, Tryd.ntmps53
    go_wp2_with fail
    go_ret2
    exact ⟨⟨_, _, rfl, HZ.out _, by simp⟩, (Below.refl _ _).alloc (Nat.le_refl _) _⟩
  have t2 : (s == [123, 125]) = false := by rw [beq_eq_false_iff_ne]; exact h2
  have HG0 := Lib.hid (GoesR.start h2)
  clear h2
  go_enter Tryd.func53, Tryd.ntmps53
  go_wp2_with fail
  go_loopw [4, 5] (fun v c wr => ∃ (a : Nat) (acc : List Lab), c = .int .i64 a ∧ 1 ≤ a ∧ a ≤ s.length + 1 ∧ acc.length ≤ a ∧ wr.ownsRow w.heap.size 60 2 v acc.length (labC acc) ∧ (∀ x ∈ acc, x.1.length ≤ s.length ∧ x.2.length ≤ s.length) ∧ Hid (GoesR s acc a) ∧ Below w.heap.size w wr) (fun _ c _ => s.length + 1 - (intOf c).toNat)
  case atStart => exact ⟨1, [], rfl, by omega, by omega, by simp, World.ownsRow_made w #[] 0 (Nat.le_refl _) (by unfold maxLen; omega) rfl, by simp, HG0.out, (Below.refl _ _).alloc (Nat.le_refl _) _⟩
  case round =>
    clear t2
    obtain ⟨a, acc, rfl, ha1, ha, hal, hown, hsm, HG, hb⟩ := hrel
    obtain ⟨A, cap, rfl⟩ := row_slice hown
    have hsz := hb.size
    have hlow := Lib.hid (ownLow hown)
    by_cases hlt : a < s.length
    · have HO := Lib.hid hown
      have HSM := Lib.hid hsm
      clear hown hsm
      go_wp2_with fail
      obtain ⟨wo, rfl⟩ : ∃ wo : World, wo = wr := ⟨_, rfl⟩
      go_loopw [6] (fun c wr => ∃ k : Nat, c = .int .i64 k ∧ a ≤ k ∧ k ≤ s.length ∧ Hid (∀ j (hj : j < s.length), a ≤ j → j < k → (s[j]'hj).toNat ≠ 61) ∧ wo = wr) (fun c _ => s.length - (intOf c).toNat)
      case atStart => exact ⟨a, rfl, Nat.le_refl _, by omega, fun j hj h1 h2 => by omega, rfl⟩
      case round =>
        obtain ⟨k, rfl, hak, hks, HJ, rfl⟩ := hrel
        by_cases hkl : k < s.length
        · obtain ⟨x, hx⟩ : ∃ x, s[k]'hkl = x := ⟨_, rfl⟩
          have HX := Lib.hid hx
          have hxl : x.toNat < 256 := x.toNat_lt
          by_cases h61 : x.toNat = 61
          · have t1 : (((x.toNat : Nat) : Int) != 61) = false := by simp [bne, h61]
            have hc := cutE_at hak hkl (by rw [HX.out]; exact h61) HJ.out
            have tk : ((k : Int) == (s.length : Int)) = false := by rw [beq_eq_false_iff_ne]; omega
            have htk : (s.drop (k + 1)).take (s.length - (k + 1)) = s.drop (k + 1) := List.take_of_length_le (by rw [List.length_drop]; omega)
            have cq := fun W => refQuoted_c (s.drop (k + 1)) W (by rw [List.length_drop]; omega)
            have hql := quotedL_le (s.drop (k + 1))
            rw [List.length_drop] at hql
            have hstep := Lib.hid (GoesR.step HG.out hlt hkl hc)
            have hnoq := Lib.hid (fun h => GoesR.noQuote HG.out hlt hc h)
            obtain ⟨V, hV⟩ : ∃ V, (quotedL (s.drop (k + 1))).1 = V := ⟨_, rfl⟩
            obtain ⟨M, hM⟩ : ∃ M, (quotedL (s.drop (k + 1))).2 = M := ⟨_, rfl⟩
            rw [hV, hM] at cq hql hstep
            rw [hM] at hnoq
            clear hc hV hM
            by_cases hM0 : M = 0
            · subst hM0
              have e : parseL s = none := parseL_none (hnoq.out rfl)
              rw [HR.out] at e
              subst e
              go_wp2_with (go_at_call 77; refine (cq _).mono ?_; rintro e w2 ⟨rfl, rfl⟩)
              go_ret2
              exact ⟨rfl, hb⟩
            · have tM : ((M : Int) == 0) = false := by rw [beq_eq_false_iff_ne]; omega
              have hMp : 0 < M := by omega
              obtain ⟨N, hN⟩ : ∃ N, (s.drop a).take (k - a) = N := ⟨_, rfl⟩
              have hNl : N.length ≤ s.length := by rw [← hN, List.length_take, List.length_drop]; omega
              rw [hN] at hstep
              have HSM2 : Hid (∀ x ∈ acc ++ [(N, V)], x.1.length ≤ s.length ∧ x.2.length ≤ s.length) := by
                intro x hx
                rcases List.mem_append.1 hx with hx | hx
                · exact HSM.out x hx
                · simp at hx; subst hx; constructor <;> simp only <;> omega
              have HO3 := Lib.hid (HO.out.alloc (.cells #[.string (str N), .string (str V)] 60))
              have hcap : acc.length ≤ 4097 := by omega
              clear hnoq hM0
              go_wp2_with (first | (go_at_call 77; refine (cq _).mono ?_; rintro e w2 ⟨rfl, rfl⟩) | (at_builtin; refine wpList_append_lies _ rfl (.tmp 46) (.tmp 53) 23 rfl w.heap.size 60 i0 (.agg #[.string (str []), .string (str [])]) 2 32 Tryd.underlying23 hi0 hz0 hz1 hz2 rfl (by decide) _ acc.length _ rfl HO3.out ⟨wo.heap.size, 0, none⟩ 1 1 [.string (str N), .string (str V)] rfl rfl ?c1 ?c2 (by decide) ?c3 ?c4 ?c5 _ rfl ?c6))
              case c1 => exact cells_two_new _ _ _ _
              case c2 => intro u hu; simp at hu; rcases hu with rfl | rfl <;> rfl
              case c3 => unfold maxLen; omega
              case c4 => omega
              case c5 => simp; omega
              case c6 =>
                intro g1 cap1 w4 hown1 hg1 _ hl1
                have hb4 : Below w.heap.size w w4 := (hb.alloc hsz _).grown hg1 (by simp; omega) hlow.out
                have HO4 := Lib.hid hown1
                clear hown1 hg1
                go_wp2_with fail
                go_roundw
                case rel => exact ⟨k + 1 + M + 1, acc ++ [(N, V)], by go_num, by omega, by omega, by simp; omega, by rw [List.length_append, labC_append]; exact HO4.out, HSM2.out, hstep.out, hb4⟩
                case measure => simp [intOf]; omega
          · have t1 : (((x.toNat : Nat) : Int) != 61) = true := by
              have : (((x.toNat : Nat) : Int) == 61) = false := by rw [beq_eq_false_iff_ne]; omega
              simp [bne, this]
            have HJ2 : Hid (∀ j (hj : j < s.length), a ≤ j → j < k + 1 → (s[j]'hj).toNat ≠ 61) := by
              intro j hj h1 h2
              by_cases he : j = k
              · subst he; rw [HX.out]; exact h61
              · exact HJ.out j hj h1 (by omega)
            go_wp2_with fail
            go_roundw
            case rel => exact ⟨k + 1, by go_num, by omega, by omega, HJ2.out, by first | rfl | trivial⟩
            case measure => simp [intOf]; omega
        · obtain rfl : k = s.length := by omega
          have e : parseL s = none := parseL_none (GoesR.noCut HG.out hlt (cutE_end HJ.out))
          rw [HR.out] at e
          subst e
          go_wp2_with fail
          go_ret2
          exact ⟨rfl, hb⟩
    · have hun := GoesR.done HG.out (by omega)
      have hl := own_lat (v := .slice none 0 0) hown rfl (fun x hx => by have := hsm x hx; omega)
      have cp := fun W h1 => refPrint_c A acc.length cap acc W (by omega) h1 (fun x hx => by have := hsm x hx; omega)
      have x0 : eOf true = 0 := rfl
      have x1 : eOf false = 40 := rfl
      have HL := Lib.hid hl
      cases hO : okL acc with
      | false =>
        have e : parseL s = none := parseL_none (fun L h1 h2 => by
          have := hun L h1 h2
          subst this
          rw [hO] at h1; cases h1)
        rw [HR.out] at e
        subst e
        rw [hO, x1] at cp
        clear hun hsm hown
        go_wp2_with (go_at_call 49; refine (cp _ hl).mono ?_; rintro e w2 ⟨rfl, hb2⟩)
        go_ret2
        exact ⟨rfl, below2 hb hb2 hb.size⟩
      | true =>
        have hl8 := okL_len hO
        rw [hO, x0, if_pos rfl] at cp
        by_cases hp : printL acc = s
        · have e := parseL_some hO hp
          rw [HR.out] at e
          subst e
          rw [hp] at cp
          have tn : (s != s) = false := by simp
          clear hun hsm hown
          go_wp2_with (go_at_call 49; refine (cp _ hl).mono ?_; rintro e w2 ⟨rfl, hb2⟩)
          go_ret2
          exact ⟨⟨A, cap, rfl, HL.out.below hb2, hl8⟩, below2 hb hb2 hb.size⟩
        · have e : parseL s = none := parseL_none (fun L h1 h2 => by
            have := hun L h1 h2
            subst this
            exact hp h2)
          rw [HR.out] at e
          subst e
          have tn : (printL acc == s) = false := by rw [beq_eq_false_iff_ne]; exact hp
          obtain ⟨Q, hQ⟩ : ∃ Q, printL acc = Q := ⟨_, rfl⟩
          rw [hQ] at cp tn
          clear hun hsm hp hQ hown
          go_wp2_with (go_at_call 49; refine (cp _ hl).mono ?_; rintro e w2 ⟨rfl, hb2⟩)
          go_ret2
          exact ⟨rfl, below2 hb hb2 hb.size⟩
end Go.Proofs.YtdbifbgjbfnfmaaDoor
