/-
  DiskFails: for every slice of bytes and every byte the statement's function returns true, and its arguments read as they did. No condition.
-/
import Derived.Test.YtlagmjdldplblaaDiskF
import Derived.Test.YtlagmjdldplblaaRows
import Derived.WalkKit
import Derived.ProofKit
import Derived.OpenShut
import Derived.ShutString
import Derived.ChangeOld
import Derived.Below
import Derived.Test.YtlagmjdldplblaaBase
/- The statement DiskFails: plain part. -/
namespace Go.Proofs.Ytlagmjdldplblaa
set_option linter.unusedVariables false
set_option maxRecDepth 4000

theorem append_gen {M M1 : DK} {e : Int} (hst : stepD M = (M1, e)) (he : e ≠ 34) {s : ByteArray} {f : Nat} (hn : findN M1.names s = some f) {b : List Int} (hq : ((usedD M1 + b.length : Nat) : Int) ≤ M1.quota) :
    appendD M s b = (putD M1 f ((flN M1 f).1 ++ (if e = 33 then b.take (b.length / 2) else b), (flN M1 f).2), e) := by
  unfold appendD
  rw [hst, if_neg (by exact he)]
  unfold appendedD
  simp only [hn]
  rw [if_pos hq]
/-- the disk with the file f -/
def fM (k : Int) (n : Nat) (x : Fl8) (kept : List Nm8) (chs : List Ch8) : DK := ⟨1000, n, [x], [(nF, 0)], kept, chs, [k, 9, k], none, false⟩
def fM0 (k : Int) : DK := failD (newD 1000) [k, 9, k]
abbrev fC : List Ch8 := [⟨none, some (nF, 0)⟩]
theorem fails1 (b : List Int) : createD (fM0 1) nF = (⟨1000, 1, [], [], [], [], [1, 9, 1], none, false⟩, 33) ∧
    appendD ⟨1000, 1, [], [], [], [], [1, 9, 1], none, false⟩ nF b = (⟨1000, 2, [], [], [], [], [1, 9, 1], none, false⟩, 30) ∧
    syncD ⟨1000, 2, [], [], [], [], [1, 9, 1], none, false⟩ nF = (⟨1000, 3, [], [], [], [], [1, 9, 1], none, false⟩, 30) ∧
    syncDirD ⟨1000, 3, [], [], [], [], [1, 9, 1], none, false⟩ = (⟨1000, 4, [], [], [], [], [1, 9, 1], none, false⟩, 0) := ⟨rfl, rfl, rfl, rfl⟩
theorem fails2 {b : List Int} (hb : b.length ≤ 100) : createD (fM0 2) nF = (fM 2 1 ([], 0) [] fC, 0) ∧ appendD (fM 2 1 ([], 0) [] fC) nF b = (fM 2 2 (b.take (b.length / 2), 0) [] fC, 33) ∧
    syncD (fM 2 2 (b.take (b.length / 2), 0) [] fC) nF = (fM 2 3 (b.take (b.length / 2), (b.take (b.length / 2)).length) [] fC, 0) ∧
    syncDirD (fM 2 3 (b.take (b.length / 2), (b.take (b.length / 2)).length) [] fC) = (fM 2 4 (b.take (b.length / 2), (b.take (b.length / 2)).length) [(nF, 0)] [], 0) := by
  refine ⟨rfl, ?_, rfl, rfl⟩
  rw [append_gen (M1 := fM 2 2 ([], 0) [] fC) (e := 33) (f := 0) rfl (by decide) rfl (by show ((0 + b.length : Nat) : Int) ≤ 1000; omega)]
  rfl
theorem fails3 {b : List Int} (hb : b.length ≤ 100) : createD (fM0 3) nF = (fM 3 1 ([], 0) [] fC, 0) ∧ appendD (fM 3 1 ([], 0) [] fC) nF b = (fM 3 2 (b, 0) [] fC, 0) ∧
    syncD (fM 3 2 (b, 0) [] fC) nF = (fM 3 3 (b, 0) [] fC, 33) ∧ syncDirD (fM 3 3 (b, 0) [] fC) = (fM 3 4 (b, 0) [(nF, 0)] [], 0) := by
  refine ⟨rfl, ?_, rfl, rfl⟩
  rw [append_gen (M1 := fM 3 2 ([], 0) [] fC) (e := 0) (f := 0) rfl (by decide) rfl (by show ((0 + b.length : Nat) : Int) ≤ 1000; omega)]
  rfl
theorem fails4 {b : List Int} (hb : b.length ≤ 100) : createD (fM0 4) nF = (fM 4 1 ([], 0) [] fC, 0) ∧ appendD (fM 4 1 ([], 0) [] fC) nF b = (fM 4 2 (b, 0) [] fC, 0) ∧
    syncD (fM 4 2 (b, 0) [] fC) nF = (fM 4 3 (b, b.length) [] fC, 0) ∧ syncDirD (fM 4 3 (b, b.length) [] fC) = (fM 4 4 (b, b.length) [] fC, 33) := by
  refine ⟨rfl, ?_, rfl, rfl⟩
  rw [append_gen (M1 := fM 4 2 ([], 0) [] fC) (e := 0) (f := 0) rfl (by decide) rfl (by show ((0 + b.length : Nat) : Int) ≤ 1000; omega)]
  rfl
theorem fread (k : Int) (n : Nat) (x : Fl8) (kept : List Nm8) (chs : List Ch8) : readD (fM k n x kept chs) nF = (x.1, 0) := rfl
theorem ffound (k : Int) (n : Nat) (x : List Int) : readD (crashD (fM k n (x, x.length) [(nF, 0)] []) 0 []) nF = (x, 0) := read_whole (f := 0) rfl rfl
theorem ffound3 (k : Int) (n : Nat) (x : List Int) : readD (crashD (fM k n (x, 0) [(nF, 0)] []) 0 []) nF = ([], 0) := rfl
theorem ffound4 (k : Int) (n : Nat) (x : Fl8) : readD (crashD (fM k n x [] fC) 0 []) nF = ([], 30) ∧ (crashD (fM k n x [] fC) 0 []).names.length = 0 := ⟨rfl, rfl⟩
theorem ffound1 : readD ⟨1000, 4, [], [], [], [], [1, 9, 1], none, false⟩ nF = ([], 30) ∧ readD (crashD ⟨1000, 4, [], [], [], [], [1, 9, 1], none, false⟩ 0 []) nF = ([], 30) := ⟨rfl, rfl⟩
end Go.Proofs.Ytlagmjdldplblaa
/- The statement DiskFails. -/
namespace Go.Proofs.Ytlagmjdldplblaa
open Go.ChangeShapes Go.WideShapes Go.ChangeAt Go.RowKit Go.WideMaps Go.Maps
set_option linter.unusedVariables false
set_option maxRecDepth 4000

theorem BV.ld {w0 w : World} {p k : Nat} {M : DK} {A : Option Addr} {n : Nat} {zs : List Int} (h : BV w0 A n zs) (hd : LD w0 w p k M) : BV w A n zs := h.below hd.2
set_option maxHeartbeats 4000000 in
theorem fails8_is (A : Option Addr) (n c : Nat) (xs : List Int) (a : Int) (w : World) (hA : BV w A n xs) (hnc : n ≤ c) (ha : 0 ≤ a ∧ a ≤ 255) :
    Calls Try.prog 5 #[.slice A n c, .int .u8 a] w fun e w' => e = .returned (.bool true) ∧ Below w.heap.size w w' := by
  have hs := Lib.hid (shown8_is w)
  have HI := Lib.hid hA
  clear hA
  go_enter Try.func5, Try.ntmps5
  go_wp2_with fail
  refine hs.out.mono ?_
  rintro e w1 ⟨rfl, hb1⟩
  obtain ⟨m1, z1, hz1, hl1, hc1, h100, hv1, hlo1, hf1⟩ := few_l (HI.out.below hb1) hnc
  have H1 := Lib.hid (And.intro hv1 (And.intro hlo1 (And.intro hf1 (And.intro hb1 hl1))))
  clear hb1 HI hs hv1 hlo1 hf1 hz1 hl1
  go_wp2_with fail
  refine (new_l w1 1000 (by unfold maxI; omega)).mono ?_
  rintro e w2 ⟨p, rfl, hL⟩
  have h2 := Lib.hid hL
  clear hL
  go_wp2_with fail
  refine (H1.out.2.2.1 w2 h2.out.2).mono ?_
  rintro e w3 ⟨rfl, e3⟩
  subst e3
  have hb100 : z1.length ≤ 100 := by rw [H1.out.2.2.2.2]; exact h100
  have hfl2 := fails2 hb100
  have hvh := H1.out.1.take (z1.length / 2) (by have := H1.out.2.2.2.2; omega)
  obtain ⟨hh, hhe⟩ : ∃ hh, z1.length / 2 = hh := ⟨_, rfl⟩
  rw [hhe] at hfl2 hvh
  have hzl : (z1.take hh).length = hh := by rw [List.length_take]; omega
  have hbt0 : ∀ y ∈ z1.take hh, 0 ≤ y ∧ y ≤ 255 := fun y hy => H1.out.1.2.1 y (List.mem_of_mem_take hy)
  generalize z1.take hh = zh at hfl2 hvh hzl hbt0
  have HH := Lib.hid (And.intro hvh (show hh = m1 / 2 by have := H1.out.2.2.2.2; omega))
  have HFL2 := Lib.hid hfl2
  have HZL := Lib.hid hzl
  clear hfl2 hvh hhe hzl
  have hbz : ∀ y ∈ z1, 0 ≤ y ∧ y ≤ 255 := H1.out.1.2.1
  rcases (by omega : a % 4 = 0 ∨ a % 4 = 1 ∨ a % 4 = 2 ∨ a % 4 = 3) with h | h | h | h
  · skip
    have hm1 : a.tmod 4 = 0 := by rw [Int.tmod_eq_emod_of_nonneg ha.1]; omega
    have hm2 : a % 4 = 0 := by omega
    have hF := (fails1 z1)
    go_wp2_with fail
    have hiv : IV (w3.alloc (.cells #[.int .i64 1, .int .i64 9, .int .i64 1] 3)) (some ⟨w3.heap.size, 0, none⟩) 3 [1, 9, 1] := SV.lit (k := 1) w3 (icells [1, 9, 1]) 3 3 rfl (by intro u hu; simp only [icells, List.map_cons, List.map_nil, List.mem_cons, List.not_mem_nil, or_false] at hu; rcases hu with rfl | rfl | rfl <;> rfl)
    refine (fail_n h2.out ((Below.refl _ _).alloc (Nat.le_refl _) _) (some ⟨w3.heap.size, 0, none⟩) 3 3 [1, 9, 1] hiv (by omega) (fun x hx => by cases hx; exact ⟨Nat.le_refl _, by simp⟩) (fun x hx => by simp at hx; unfold maxI; omega)).mono ?_
    rintro e w4 ⟨rfl, hL⟩
    have h4 := Lib.hid (show LD w1 w4 p 0 (fM0 1) from hL)
    have HFs := Lib.hid hF
    clear hL hiv hF hm2 h
    go_wp2_with fail
    refine (create_l h4.out (by omega) nF (by decide)).mono ?_
    intro e w5 hL
    rw [HFs.out.1] at hL
    obtain ⟨rfl, hL⟩ := hL
    have h5 := Lib.hid hL
    clear hL
    go_wp2_with fail
    refine (append_l h5.out (by omega) nF (by decide) A m1 c z1 (H1.out.1.ld h5.out) hc1 (by omega) H1.out.2.1).mono ?_
    intro e w6 hL
    rw [HFs.out.2.1] at hL
    obtain ⟨rfl, hL⟩ := hL
    have h6 := Lib.hid hL
    clear hL
    go_wp2_with fail
    refine (sync_l h6.out (by omega) nF (by decide)).mono ?_
    intro e w7 hL
    rw [HFs.out.2.2.1] at hL
    obtain ⟨rfl, hL⟩ := hL
    have h7 := Lib.hid hL
    clear hL
    go_wp2_with fail
    refine (syncDir_l h7.out (by omega)).mono ?_
    intro e w8 hL
    rw [HFs.out.2.2.2] at hL
    obtain ⟨rfl, hL⟩ := hL
    have h8 := Lib.hid hL
    clear hL
    go_wp2_with fail
    have h9 := Lib.hid (h8.out.alloc (.cells #[.int .i64 33, .int .i64 30, .int .i64 30, .int .i64 0] 36))
    have e0 : (w8.alloc (.cells #[.int .i64 33, .int .i64 30, .int .i64 30, .int .i64 0] 36)).cell? ⟨w8.heap.size, 0, none⟩ = some (.int .i64 33) := (Bk.new w8 _ _).cell 0 rfl
    have e1 : (w8.alloc (.cells #[.int .i64 33, .int .i64 30, .int .i64 30, .int .i64 0] 36)).cell? ⟨w8.heap.size, 1, none⟩ = some (.int .i64 30) := (Bk.new w8 _ _).cell 1 rfl
    have e2 : (w8.alloc (.cells #[.int .i64 33, .int .i64 30, .int .i64 30, .int .i64 0] 36)).cell? ⟨w8.heap.size, 2, none⟩ = some (.int .i64 30) := (Bk.new w8 _ _).cell 2 rfl
    have e3 : (w8.alloc (.cells #[.int .i64 33, .int .i64 30, .int .i64 30, .int .i64 0] 36)).cell? ⟨w8.heap.size, 3, none⟩ = some (.int .i64 0) := (Bk.new w8 _ _).cell 3 rfl
    generalize (w8.alloc (.cells #[.int .i64 33, .int .i64 30, .int .i64 30, .int .i64 0] 36)) = w9 at *
    clear h4 h5 h6 h7 h8 HFs
    go_loopw [9, 10] (fun i _ wr => ∃ (j : Nat), j ≤ 4 ∧ i = .int .i64 (j : Int) ∧ wr = w9) (fun i _ _ => 4 - (intOf i).toNat)
    case atStart => exact ⟨0, by omega, rfl, rfl⟩
    case round =>
      obtain ⟨j, hj, rfl, hwr⟩ := hrel
      subst hwr
      rcases (by omega : j = 0 ∨ j = 1 ∨ j = 2 ∨ j = 3 ∨ j = 4) with rfl | rfl | rfl | rfl | rfl
      · skip
        go_wp2_with fail
        go_roundw
        case rel => exact ⟨1, by omega, by rfl, trivial⟩
        case measure => decide
      · skip
        go_wp2_with fail
        go_roundw
        case rel => exact ⟨2, by omega, by rfl, trivial⟩
        case measure => decide
      · skip
        go_wp2_with fail
        go_roundw
        case rel => exact ⟨3, by omega, by rfl, trivial⟩
        case measure => decide
      · skip
        go_wp2_with fail
        go_roundw
        case rel => exact ⟨4, by omega, by rfl, trivial⟩
        case measure => decide
      · go_wp2_with fail
        refine (crash_nil h9.out (by omega) 0).mono ?_
        rintro e w10 ⟨x, rfl, hx, hp⟩
        have hx10 := Lib.hid hx
        have hp10 := Lib.hid hp
        clear hx hp e0 e1 e2 e3
        go_wp2_with fail
        refine (read_l hp10.out (by omega) nF (by decide)).mono ?_
        intro e w11 hr1
        rw [ffound1.1] at hr1
        obtain ⟨v1, rfl, hv1, hb11⟩ := hr1
        obtain ⟨a1, k1, rfl, -, -, hbv1, -⟩ := hv1.bvn (by simp) _ rfl
        have H11 := Lib.hid (And.intro hbv1 (And.intro (hx10.out.below hb11) (hp10.out.below hb11)))
        clear hv1 hbv1 hb11
        go_wp2_with fail
        refine (steps_l H11.out.2.2).mono ?_
        rintro e w12 ⟨rfl, ew⟩
        subst ew
        go_wp2_with fail
        refine (read_l H11.out.2.1 (by omega) nF (by decide)).mono ?_
        intro e w13 hr2
        rw [ffound1.2] at hr2
        obtain ⟨v2, rfl, hv2, hb13⟩ := hr2
        obtain ⟨a2, k2, rfl, -, -, hbv2, -⟩ := hv2.bvn (by simp) _ rfl
        have H13 := Lib.hid (And.intro (H11.out.2.1.below hb13) (H11.out.2.2.below hb13))
        have f1 := fun wq (hq : Old w13 wq) => conv_any ((H11.out.1.below hb13).old hq) k1
        have f2 := fun wq (hq : Old w13 wq) => conv_any (hbv2.old hq) k2
        have f3 := fun wq (hq : Old w13 wq) => conv_any (((H1.out.1.ld H11.out.2.2).below hb13).old hq) c
        have f4 := fun wq (hq : Old w13 wq) => conv_any (((HH.out.1.ld H11.out.2.2).below hb13).old hq) c
        have HBw := Lib.hid (H1.out.2.2.2.1.trans (H13.out.2.2.mono H1.out.2.2.2.1.size))
        clear hv2 hbv2 hb13 hx10 hp10
        go_wp2_with fail
        refine (names_l H13.out.2 (by omega)).mono ?_
        rintro e w14 ⟨v, rfl, ho, hb14⟩
        obtain ⟨a3, k3, rfl, -⟩ := ho.shape
        have HB := Lib.hid (HBw.out.trans (hb14.mono HBw.out.size))
        clear ho hb14 f1 f2 f3 f4
        go_wp2_with fail
        go_ret
        exact ⟨rfl, HB.out⟩
  · skip
    have hm1 : a.tmod 4 = 1 := by rw [Int.tmod_eq_emod_of_nonneg ha.1]; omega
    have hm2 : a % 4 = 1 := by omega
    have hF := HFL2.out
    go_wp2_with fail
    have hiv : IV (w3.alloc (.cells #[.int .i64 2, .int .i64 9, .int .i64 2] 3)) (some ⟨w3.heap.size, 0, none⟩) 3 [2, 9, 2] := SV.lit (k := 1) w3 (icells [2, 9, 2]) 3 3 rfl (by intro u hu; simp only [icells, List.map_cons, List.map_nil, List.mem_cons, List.not_mem_nil, or_false] at hu; rcases hu with rfl | rfl | rfl <;> rfl)
    refine (fail_n h2.out ((Below.refl _ _).alloc (Nat.le_refl _) _) (some ⟨w3.heap.size, 0, none⟩) 3 3 [2, 9, 2] hiv (by omega) (fun x hx => by cases hx; exact ⟨Nat.le_refl _, by simp⟩) (fun x hx => by simp at hx; unfold maxI; omega)).mono ?_
    rintro e w4 ⟨rfl, hL⟩
    have h4 := Lib.hid (show LD w1 w4 p 0 (fM0 2) from hL)
    have HFs := Lib.hid hF
    clear hL hiv hF hm2 h
    go_wp2_with fail
    refine (create_l h4.out (by omega) nF (by decide)).mono ?_
    intro e w5 hL
    rw [HFs.out.1] at hL
    obtain ⟨rfl, hL⟩ := hL
    have h5 := Lib.hid hL
    clear hL
    go_wp2_with fail
    refine (append_l h5.out (by omega) nF (by decide) A m1 c z1 (H1.out.1.ld h5.out) hc1 (by omega) H1.out.2.1).mono ?_
    intro e w6 hL
    rw [HFs.out.2.1] at hL
    obtain ⟨rfl, hL⟩ := hL
    have h6 := Lib.hid hL
    clear hL
    go_wp2_with fail
    refine (sync_l h6.out (by omega) nF (by decide)).mono ?_
    intro e w7 hL
    rw [HFs.out.2.2.1] at hL
    obtain ⟨rfl, hL⟩ := hL
    have h7 := Lib.hid hL
    clear hL
    go_wp2_with fail
    refine (syncDir_l h7.out (by omega)).mono ?_
    intro e w8 hL
    rw [HFs.out.2.2.2] at hL
    obtain ⟨rfl, hL⟩ := hL
    have h8 := Lib.hid hL
    clear hL
    go_wp2_with fail
    have h9 := Lib.hid (h8.out.alloc (.cells #[.int .i64 0, .int .i64 33, .int .i64 0, .int .i64 0] 36))
    have e0 : (w8.alloc (.cells #[.int .i64 0, .int .i64 33, .int .i64 0, .int .i64 0] 36)).cell? ⟨w8.heap.size, 0, none⟩ = some (.int .i64 0) := (Bk.new w8 _ _).cell 0 rfl
    have e1 : (w8.alloc (.cells #[.int .i64 0, .int .i64 33, .int .i64 0, .int .i64 0] 36)).cell? ⟨w8.heap.size, 1, none⟩ = some (.int .i64 33) := (Bk.new w8 _ _).cell 1 rfl
    have e2 : (w8.alloc (.cells #[.int .i64 0, .int .i64 33, .int .i64 0, .int .i64 0] 36)).cell? ⟨w8.heap.size, 2, none⟩ = some (.int .i64 0) := (Bk.new w8 _ _).cell 2 rfl
    have e3 : (w8.alloc (.cells #[.int .i64 0, .int .i64 33, .int .i64 0, .int .i64 0] 36)).cell? ⟨w8.heap.size, 3, none⟩ = some (.int .i64 0) := (Bk.new w8 _ _).cell 3 rfl
    generalize (w8.alloc (.cells #[.int .i64 0, .int .i64 33, .int .i64 0, .int .i64 0] 36)) = w9 at *
    clear h4 h5 h6 h7 h8 HFs
    go_loopw [9, 10] (fun i _ wr => ∃ (j : Nat), j ≤ 4 ∧ i = .int .i64 (j : Int) ∧ wr = w9) (fun i _ _ => 4 - (intOf i).toNat)
    case atStart => exact ⟨0, by omega, rfl, rfl⟩
    case round =>
      obtain ⟨j, hj, rfl, hwr⟩ := hrel
      subst hwr
      rcases (by omega : j = 0 ∨ j = 1 ∨ j = 2 ∨ j = 3 ∨ j = 4) with rfl | rfl | rfl | rfl | rfl
      · skip
        go_wp2_with fail
        go_roundw
        case rel => exact ⟨1, by omega, by rfl, trivial⟩
        case measure => decide
      · skip
        go_wp2_with fail
        go_roundw
        case rel => exact ⟨2, by omega, by rfl, trivial⟩
        case measure => decide
      · skip
        go_wp2_with fail
        go_roundw
        case rel => exact ⟨3, by omega, by rfl, trivial⟩
        case measure => decide
      · skip
        go_wp2_with fail
        go_roundw
        case rel => exact ⟨4, by omega, by rfl, trivial⟩
        case measure => decide
      · go_wp2_with fail
        refine (crash_nil h9.out (by omega) 0).mono ?_
        rintro e w10 ⟨x, rfl, hx, hp⟩
        have hx10 := Lib.hid hx
        have hp10 := Lib.hid hp
        clear hx hp e0 e1 e2 e3
        go_wp2_with fail
        refine (read_l hp10.out (by omega) nF (by decide)).mono ?_
        intro e w11 hr1
        rw [(fread _ _ _ _ _)] at hr1
        obtain ⟨v1, rfl, hv1, hb11⟩ := hr1
        obtain ⟨a1, k1, rfl, -, -, hbv1, -⟩ := hv1.bvn hbt0 _ rfl
        have H11 := Lib.hid (And.intro hbv1 (And.intro (hx10.out.below hb11) (hp10.out.below hb11)))
        clear hv1 hbv1 hb11
        go_wp2_with fail
        refine (steps_l H11.out.2.2).mono ?_
        rintro e w12 ⟨rfl, ew⟩
        subst ew
        go_wp2_with fail
        refine (read_l H11.out.2.1 (by omega) nF (by decide)).mono ?_
        intro e w13 hr2
        rw [(ffound _ _ _)] at hr2
        obtain ⟨v2, rfl, hv2, hb13⟩ := hr2
        obtain ⟨a2, k2, rfl, -, -, hbv2, -⟩ := hv2.bvn hbt0 _ rfl
        have H13 := Lib.hid (And.intro (H11.out.2.1.below hb13) (H11.out.2.2.below hb13))
        have f1 := fun wq (hq : Old w13 wq) => conv_any ((H11.out.1.below hb13).old hq) k1
        have f2 := fun wq (hq : Old w13 wq) => conv_any (hbv2.old hq) k2
        have f3 := fun wq (hq : Old w13 wq) => conv_any (((H1.out.1.ld H11.out.2.2).below hb13).old hq) c
        have f4 := fun wq (hq : Old w13 wq) => conv_any (((HH.out.1.ld H11.out.2.2).below hb13).old hq) c
        have HBw := Lib.hid (H1.out.2.2.2.1.trans (H13.out.2.2.mono H1.out.2.2.2.1.size))
        clear hv2 hbv2 hb13 hx10 hp10
        have hhe := HH.out.2
        have hd2 : (m1 : Int).tdiv 2 = (hh : Int) := by rw [Int.tdiv_eq_ediv_of_nonneg (by omega)]; omega
        have hd6 : (m1 : Int) / 2 = (hh : Int) := by omega
        have hd3 : (hh : Int) ≤ (c : Int) := by omega
        have hd4 : hh ≤ c := by omega
        have hd7 : (0 : Int) ≤ (hh : Int) := by omega
        have hd5 : IntKind.i64.wrap (hh : Int) = (hh : Int) := by rw [IntKind.wrap_i64]; omega
        clear hhe
        go_wp2_with fail
        refine wp_region_noPanic ?_
        refine region_g 25 (Old w13) (by kernel_rfl) ((Old.refl w13).drew) (fun hS => ?_)
        refine take_w (i := 0) (v := ?_) (some 101) rfl (by kernel_rfl) rfl (fun _ _ _ h => h) (Or.inl ⟨by rfl, ?_⟩) hS ?_
        rotate_left
        · (intro wq hq; go_simp); first | done | with_reducible rfl
        try simp only [Act.put, List.setIfInBounds_toArray, List.set_cons_zero, List.set_cons_succ]
        replace hS := Till.list 0 hS
        refine take_w (i := 1) (v := ?_) (some 102) rfl (by kernel_rfl) rfl (fun _ _ _ h => h) (Or.inl ⟨by rfl, ?_⟩) hS ?_
        rotate_left
        · (intro wq hq; go_simp); first | done | with_reducible rfl
        try simp only [Act.put, List.setIfInBounds_toArray, List.set_cons_zero, List.set_cons_succ]
        replace hS := Till.list 1 hS
        refine take_w (i := 2) (v := ?_) (some 103) rfl (by kernel_rfl) rfl (fun _ _ _ h => h) (Or.inl ⟨by rfl, ?_⟩) hS ?_
        rotate_left
        · (intro wq hq; go_simp); first | done | with_reducible rfl
        try simp only [Act.put, List.setIfInBounds_toArray, List.set_cons_zero, List.set_cons_succ]
        replace hS := Till.list 2 hS
        refine take_w (i := 3) (v := ?_) (some 104) rfl (by kernel_rfl) rfl (fun _ _ _ h => h) (Or.inl ⟨by rfl, ?_⟩) hS ?_
        rotate_left
        · (intro wq hq; go_simp); first | done | with_reducible rfl
        try simp only [Act.put, List.setIfInBounds_toArray, List.set_cons_zero, List.set_cons_succ]
        replace hS := Till.list 3 hS
        refine take_n (i := 4) (v := .string (strOfNums zh)) (some 105) rfl (by kernel_rfl) rfl (fun _ _ _ h => h) (Or.inl ⟨by rfl, ?_⟩) hS ?_
        · (intro wq hq; (have r1 := f1 wq hq; go_simp))
        try simp only [Act.put, List.setIfInBounds_toArray, List.set_cons_zero, List.set_cons_succ]
        replace hS := Till.list 4 hS
        refine take_w (i := 5) (v := ?_) (some 106) rfl (by kernel_rfl) rfl (fun _ _ _ h => h) (Or.inl ⟨by rfl, ?_⟩) hS ?_
        rotate_left
        · (intro wq hq; go_simp); first | done | with_reducible rfl
        try simp only [Act.put, List.setIfInBounds_toArray, List.set_cons_zero, List.set_cons_succ]
        replace hS := Till.list 5 hS
        refine take_w (i := 6) (v := ?_) (some 107) rfl (by kernel_rfl) rfl (fun _ _ _ h => h) (Or.inl ⟨by rfl, ?_⟩) hS ?_
        rotate_left
        · (intro wq hq; go_simp); first | done | with_reducible rfl
        try simp only [Act.put, List.setIfInBounds_toArray, List.set_cons_zero, List.set_cons_succ]
        replace hS := Till.list 6 hS
        refine take_w (i := 7) (v := ?_) (some 108) rfl (by kernel_rfl) rfl (fun _ _ _ h => h) (Or.inl ⟨by rfl, ?_⟩) hS ?_
        rotate_left
        · (intro wq hq; go_simp); first | done | with_reducible rfl
        try simp only [Act.put, List.setIfInBounds_toArray, List.set_cons_zero, List.set_cons_succ]
        replace hS := Till.list 7 hS
        refine take_w (i := 8) (v := ?_) (some 109) rfl (by kernel_rfl) rfl (fun _ _ _ h => h) (Or.inl ⟨by rfl, ?_⟩) hS ?_
        rotate_left
        · (intro wq hq; go_simp); first | done | with_reducible rfl
        try simp only [Act.put, List.setIfInBounds_toArray, List.set_cons_zero, List.set_cons_succ]
        replace hS := Till.list 8 hS
        refine take_w (i := 9) (v := ?_) (some 110) rfl (by kernel_rfl) rfl (fun _ _ _ h => h) (Or.inl ⟨by rfl, ?_⟩) hS ?_
        rotate_left
        · (intro wq hq; go_simp); first | done | with_reducible rfl
        try simp only [Act.put, List.setIfInBounds_toArray, List.set_cons_zero, List.set_cons_succ]
        replace hS := Till.list 9 hS
        refine take_n (i := 10) (v := .string (strOfNums zh)) (some 111) rfl (by kernel_rfl) rfl (fun _ _ _ h => h) (Or.inl ⟨by rfl, ?_⟩) hS ?_
        · (intro wq hq; (have r1 := f4 wq hq; go_simp))
        try simp only [Act.put, List.setIfInBounds_toArray, List.set_cons_zero, List.set_cons_succ]
        replace hS := Till.list 10 hS
        refine take_w (i := 11) (v := ?_) (some 112) rfl (by kernel_rfl) rfl (fun _ _ _ h => h) (Or.inl ⟨by rfl, ?_⟩) hS ?_
        rotate_left
        · (intro wq hq; go_simp); first | done | with_reducible rfl
        try simp only [Act.put, List.setIfInBounds_toArray, List.set_cons_zero, List.set_cons_succ]
        replace hS := Till.list 11 hS
        refine take_w (i := 12) (v := ?_) (some 113) rfl (by kernel_rfl) rfl (fun _ _ _ h => h) (Or.inl ⟨by rfl, ?_⟩) hS ?_
        rotate_left
        · (intro wq hq; go_simp); first | done | with_reducible rfl
        try simp only [Act.put, List.setIfInBounds_toArray, List.set_cons_zero, List.set_cons_succ]
        replace hS := Till.list 12 hS
        refine take_w (i := 13) (v := ?_) (some 114) rfl (by kernel_rfl) rfl (fun _ _ _ h => h) (Or.inl ⟨by rfl, ?_⟩) hS ?_
        rotate_left
        · (intro wq hq; go_simp); first | done | with_reducible rfl
        try simp only [Act.put, List.setIfInBounds_toArray, List.set_cons_zero, List.set_cons_succ]
        replace hS := Till.list 13 hS
        refine take_w (i := 14) (v := ?_) (some 115) rfl (by kernel_rfl) rfl (fun _ _ _ h => h) (Or.inl ⟨by rfl, ?_⟩) hS ?_
        rotate_left
        · (intro wq hq; go_simp); first | done | with_reducible rfl
        try simp only [Act.put, List.setIfInBounds_toArray, List.set_cons_zero, List.set_cons_succ]
        replace hS := Till.list 14 hS
        refine take_w (i := 15) (v := ?_) (some 116) rfl (by kernel_rfl) rfl (fun _ _ _ h => h) (Or.inl ⟨by rfl, ?_⟩) hS ?_
        rotate_left
        · (intro wq hq; go_simp); first | done | with_reducible rfl
        try simp only [Act.put, List.setIfInBounds_toArray, List.set_cons_zero, List.set_cons_succ]
        replace hS := Till.list 15 hS
        refine take_w (i := 16) (v := ?_) (some 117) rfl (by kernel_rfl) rfl (fun _ _ _ h => h) (Or.inl ⟨by rfl, ?_⟩) hS ?_
        rotate_left
        · (intro wq hq; go_simp); first | done | with_reducible rfl
        try simp only [Act.put, List.setIfInBounds_toArray, List.set_cons_zero, List.set_cons_succ]
        replace hS := Till.list 16 hS
        refine take_w (i := 17) (v := ?_) (some 118) rfl (by kernel_rfl) rfl (fun _ _ _ h => h) (Or.inl ⟨by rfl, ?_⟩) hS ?_
        rotate_left
        · (intro wq hq; go_simp); first | done | with_reducible rfl
        try simp only [Act.put, List.setIfInBounds_toArray, List.set_cons_zero, List.set_cons_succ]
        replace hS := Till.list 17 hS
        refine take_w (i := 18) (v := ?_) (some 119) rfl (by kernel_rfl) rfl (fun _ _ _ h => h) (Or.inl ⟨by rfl, ?_⟩) hS ?_
        rotate_left
        · (intro wq hq; go_simp); first | done | with_reducible rfl
        try simp only [Act.put, List.setIfInBounds_toArray, List.set_cons_zero, List.set_cons_succ]
        replace hS := Till.list 18 hS
        refine take_n (i := 19) (v := .string (strOfNums zh)) (some 120) rfl (by kernel_rfl) rfl (fun _ _ _ h => h) (Or.inl ⟨by rfl, ?_⟩) hS ?_
        · (intro wq hq; (have r1 := f2 wq hq; go_simp))
        try simp only [Act.put, List.setIfInBounds_toArray, List.set_cons_zero, List.set_cons_succ]
        replace hS := Till.list 19 hS
        refine take_w (i := 20) (v := ?_) (some 121) rfl (by kernel_rfl) rfl (fun _ _ _ h => h) (Or.inl ⟨by rfl, ?_⟩) hS ?_
        rotate_left
        · (intro wq hq; go_simp); first | done | with_reducible rfl
        try simp only [Act.put, List.setIfInBounds_toArray, List.set_cons_zero, List.set_cons_succ]
        replace hS := Till.list 20 hS
        refine take_n (i := 21) (v := .string (strOfNums zh)) (some 122) rfl (by kernel_rfl) rfl (fun _ _ _ h => h) (Or.inl ⟨by rfl, ?_⟩) hS ?_
        · (intro wq hq; (have r1 := f1 wq hq; go_simp))
        try simp only [Act.put, List.setIfInBounds_toArray, List.set_cons_zero, List.set_cons_succ]
        replace hS := Till.list 21 hS
        refine take_w (i := 22) (v := ?_) (some 123) rfl (by kernel_rfl) rfl (fun _ _ _ h => h) (Or.inl ⟨by rfl, ?_⟩) hS ?_
        rotate_left
        · (intro wq hq; go_simp); first | done | with_reducible rfl
        try simp only [Act.put, List.setIfInBounds_toArray, List.set_cons_zero, List.set_cons_succ]
        replace hS := Till.list 22 hS
        refine take_w (i := 23) (v := ?_) (some 124) rfl (by kernel_rfl) rfl (fun _ _ _ h => h) (Or.inl ⟨by rfl, ?_⟩) hS ?_
        rotate_left
        · (intro wq hq; go_simp); first | done | with_reducible rfl
        try simp only [Act.put, List.setIfInBounds_toArray, List.set_cons_zero, List.set_cons_succ]
        replace hS := Till.list 23 hS
        refine take_w (i := 24) (v := ?_) (some 4) rfl (by kernel_rfl) rfl (fun _ _ _ h => h) (Or.inl ⟨by rfl, ?_⟩) hS ?_
        rotate_left
        · (intro wq hq; go_simp); first | done | with_reducible rfl
        try simp only [Act.put, List.setIfInBounds_toArray, List.set_cons_zero, List.set_cons_succ]
        replace hS := Till.list 24 hS
        refine done_g (by kernel_rfl) (NoPanic.normal ?_) _
        clear hS
        go_wp2_with fail
        go_ret
        exact ⟨by first | rfl | simp, HBw.out.drew⟩
  · skip
    have hm1 : a.tmod 4 = 2 := by rw [Int.tmod_eq_emod_of_nonneg ha.1]; omega
    have hm2 : a % 4 = 2 := by omega
    have hF := (fails3 hb100)
    go_wp2_with fail
    have hiv : IV (w3.alloc (.cells #[.int .i64 3, .int .i64 9, .int .i64 3] 3)) (some ⟨w3.heap.size, 0, none⟩) 3 [3, 9, 3] := SV.lit (k := 1) w3 (icells [3, 9, 3]) 3 3 rfl (by intro u hu; simp only [icells, List.map_cons, List.map_nil, List.mem_cons, List.not_mem_nil, or_false] at hu; rcases hu with rfl | rfl | rfl <;> rfl)
    refine (fail_n h2.out ((Below.refl _ _).alloc (Nat.le_refl _) _) (some ⟨w3.heap.size, 0, none⟩) 3 3 [3, 9, 3] hiv (by omega) (fun x hx => by cases hx; exact ⟨Nat.le_refl _, by simp⟩) (fun x hx => by simp at hx; unfold maxI; omega)).mono ?_
    rintro e w4 ⟨rfl, hL⟩
    have h4 := Lib.hid (show LD w1 w4 p 0 (fM0 3) from hL)
    have HFs := Lib.hid hF
    clear hL hiv hF hm2 h
    go_wp2_with fail
    refine (create_l h4.out (by omega) nF (by decide)).mono ?_
    intro e w5 hL
    rw [HFs.out.1] at hL
    obtain ⟨rfl, hL⟩ := hL
    have h5 := Lib.hid hL
    clear hL
    go_wp2_with fail
    refine (append_l h5.out (by omega) nF (by decide) A m1 c z1 (H1.out.1.ld h5.out) hc1 (by omega) H1.out.2.1).mono ?_
    intro e w6 hL
    rw [HFs.out.2.1] at hL
    obtain ⟨rfl, hL⟩ := hL
    have h6 := Lib.hid hL
    clear hL
    go_wp2_with fail
    refine (sync_l h6.out (by omega) nF (by decide)).mono ?_
    intro e w7 hL
    rw [HFs.out.2.2.1] at hL
    obtain ⟨rfl, hL⟩ := hL
    have h7 := Lib.hid hL
    clear hL
    go_wp2_with fail
    refine (syncDir_l h7.out (by omega)).mono ?_
    intro e w8 hL
    rw [HFs.out.2.2.2] at hL
    obtain ⟨rfl, hL⟩ := hL
    have h8 := Lib.hid hL
    clear hL
    go_wp2_with fail
    have h9 := Lib.hid (h8.out.alloc (.cells #[.int .i64 0, .int .i64 0, .int .i64 33, .int .i64 0] 36))
    have e0 : (w8.alloc (.cells #[.int .i64 0, .int .i64 0, .int .i64 33, .int .i64 0] 36)).cell? ⟨w8.heap.size, 0, none⟩ = some (.int .i64 0) := (Bk.new w8 _ _).cell 0 rfl
    have e1 : (w8.alloc (.cells #[.int .i64 0, .int .i64 0, .int .i64 33, .int .i64 0] 36)).cell? ⟨w8.heap.size, 1, none⟩ = some (.int .i64 0) := (Bk.new w8 _ _).cell 1 rfl
    have e2 : (w8.alloc (.cells #[.int .i64 0, .int .i64 0, .int .i64 33, .int .i64 0] 36)).cell? ⟨w8.heap.size, 2, none⟩ = some (.int .i64 33) := (Bk.new w8 _ _).cell 2 rfl
    have e3 : (w8.alloc (.cells #[.int .i64 0, .int .i64 0, .int .i64 33, .int .i64 0] 36)).cell? ⟨w8.heap.size, 3, none⟩ = some (.int .i64 0) := (Bk.new w8 _ _).cell 3 rfl
    generalize (w8.alloc (.cells #[.int .i64 0, .int .i64 0, .int .i64 33, .int .i64 0] 36)) = w9 at *
    clear h4 h5 h6 h7 h8 HFs
    go_loopw [9, 10] (fun i _ wr => ∃ (j : Nat), j ≤ 4 ∧ i = .int .i64 (j : Int) ∧ wr = w9) (fun i _ _ => 4 - (intOf i).toNat)
    case atStart => exact ⟨0, by omega, rfl, rfl⟩
    case round =>
      obtain ⟨j, hj, rfl, hwr⟩ := hrel
      subst hwr
      rcases (by omega : j = 0 ∨ j = 1 ∨ j = 2 ∨ j = 3 ∨ j = 4) with rfl | rfl | rfl | rfl | rfl
      · skip
        go_wp2_with fail
        go_roundw
        case rel => exact ⟨1, by omega, by rfl, trivial⟩
        case measure => decide
      · skip
        go_wp2_with fail
        go_roundw
        case rel => exact ⟨2, by omega, by rfl, trivial⟩
        case measure => decide
      · skip
        go_wp2_with fail
        go_roundw
        case rel => exact ⟨3, by omega, by rfl, trivial⟩
        case measure => decide
      · skip
        go_wp2_with fail
        go_roundw
        case rel => exact ⟨4, by omega, by rfl, trivial⟩
        case measure => decide
      · go_wp2_with fail
        refine (crash_nil h9.out (by omega) 0).mono ?_
        rintro e w10 ⟨x, rfl, hx, hp⟩
        have hx10 := Lib.hid hx
        have hp10 := Lib.hid hp
        clear hx hp e0 e1 e2 e3
        go_wp2_with fail
        refine (read_l hp10.out (by omega) nF (by decide)).mono ?_
        intro e w11 hr1
        rw [(fread _ _ _ _ _)] at hr1
        obtain ⟨v1, rfl, hv1, hb11⟩ := hr1
        obtain ⟨a1, k1, rfl, -, -, hbv1, -⟩ := hv1.bvn hbz _ rfl
        have H11 := Lib.hid (And.intro hbv1 (And.intro (hx10.out.below hb11) (hp10.out.below hb11)))
        clear hv1 hbv1 hb11
        go_wp2_with fail
        refine (steps_l H11.out.2.2).mono ?_
        rintro e w12 ⟨rfl, ew⟩
        subst ew
        go_wp2_with fail
        refine (read_l H11.out.2.1 (by omega) nF (by decide)).mono ?_
        intro e w13 hr2
        rw [(ffound3 _ _ _)] at hr2
        obtain ⟨v2, rfl, hv2, hb13⟩ := hr2
        obtain ⟨a2, k2, rfl, -, -, hbv2, -⟩ := hv2.bvn (by simp) _ rfl
        have H13 := Lib.hid (And.intro (H11.out.2.1.below hb13) (H11.out.2.2.below hb13))
        have f1 := fun wq (hq : Old w13 wq) => conv_any ((H11.out.1.below hb13).old hq) k1
        have f2 := fun wq (hq : Old w13 wq) => conv_any (hbv2.old hq) k2
        have f3 := fun wq (hq : Old w13 wq) => conv_any (((H1.out.1.ld H11.out.2.2).below hb13).old hq) c
        have f4 := fun wq (hq : Old w13 wq) => conv_any (((HH.out.1.ld H11.out.2.2).below hb13).old hq) c
        have HBw := Lib.hid (H1.out.2.2.2.1.trans (H13.out.2.2.mono H1.out.2.2.2.1.size))
        clear hv2 hbv2 hb13 hx10 hp10
        have g1 := f1 w13 (Old.refl _)
        have g2 := f2 w13 (Old.refl _)
        have g3 := f3 w13 (Old.refl _)
        clear f1 f2 f3 f4
        go_wp2_with fail
        go_ret
        exact ⟨by first | rfl | simp, HBw.out⟩
  · skip
    have hm1 : a.tmod 4 = 3 := by rw [Int.tmod_eq_emod_of_nonneg ha.1]; omega
    have hm2 : a % 4 = 3 := by omega
    have hF := (fails4 hb100)
    go_wp2_with fail
    have hiv : IV (w3.alloc (.cells #[.int .i64 4, .int .i64 9, .int .i64 4] 3)) (some ⟨w3.heap.size, 0, none⟩) 3 [4, 9, 4] := SV.lit (k := 1) w3 (icells [4, 9, 4]) 3 3 rfl (by intro u hu; simp only [icells, List.map_cons, List.map_nil, List.mem_cons, List.not_mem_nil, or_false] at hu; rcases hu with rfl | rfl | rfl <;> rfl)
    refine (fail_n h2.out ((Below.refl _ _).alloc (Nat.le_refl _) _) (some ⟨w3.heap.size, 0, none⟩) 3 3 [4, 9, 4] hiv (by omega) (fun x hx => by cases hx; exact ⟨Nat.le_refl _, by simp⟩) (fun x hx => by simp at hx; unfold maxI; omega)).mono ?_
    rintro e w4 ⟨rfl, hL⟩
    have h4 := Lib.hid (show LD w1 w4 p 0 (fM0 4) from hL)
    have HFs := Lib.hid hF
    clear hL hiv hF hm2 h
    go_wp2_with fail
    refine (create_l h4.out (by omega) nF (by decide)).mono ?_
    intro e w5 hL
    rw [HFs.out.1] at hL
    obtain ⟨rfl, hL⟩ := hL
    have h5 := Lib.hid hL
    clear hL
    go_wp2_with fail
    refine (append_l h5.out (by omega) nF (by decide) A m1 c z1 (H1.out.1.ld h5.out) hc1 (by omega) H1.out.2.1).mono ?_
    intro e w6 hL
    rw [HFs.out.2.1] at hL
    obtain ⟨rfl, hL⟩ := hL
    have h6 := Lib.hid hL
    clear hL
    go_wp2_with fail
    refine (sync_l h6.out (by omega) nF (by decide)).mono ?_
    intro e w7 hL
    rw [HFs.out.2.2.1] at hL
    obtain ⟨rfl, hL⟩ := hL
    have h7 := Lib.hid hL
    clear hL
    go_wp2_with fail
    refine (syncDir_l h7.out (by omega)).mono ?_
    intro e w8 hL
    rw [HFs.out.2.2.2] at hL
    obtain ⟨rfl, hL⟩ := hL
    have h8 := Lib.hid hL
    clear hL
    go_wp2_with fail
    have h9 := Lib.hid (h8.out.alloc (.cells #[.int .i64 0, .int .i64 0, .int .i64 0, .int .i64 33] 36))
    have e0 : (w8.alloc (.cells #[.int .i64 0, .int .i64 0, .int .i64 0, .int .i64 33] 36)).cell? ⟨w8.heap.size, 0, none⟩ = some (.int .i64 0) := (Bk.new w8 _ _).cell 0 rfl
    have e1 : (w8.alloc (.cells #[.int .i64 0, .int .i64 0, .int .i64 0, .int .i64 33] 36)).cell? ⟨w8.heap.size, 1, none⟩ = some (.int .i64 0) := (Bk.new w8 _ _).cell 1 rfl
    have e2 : (w8.alloc (.cells #[.int .i64 0, .int .i64 0, .int .i64 0, .int .i64 33] 36)).cell? ⟨w8.heap.size, 2, none⟩ = some (.int .i64 0) := (Bk.new w8 _ _).cell 2 rfl
    have e3 : (w8.alloc (.cells #[.int .i64 0, .int .i64 0, .int .i64 0, .int .i64 33] 36)).cell? ⟨w8.heap.size, 3, none⟩ = some (.int .i64 33) := (Bk.new w8 _ _).cell 3 rfl
    generalize (w8.alloc (.cells #[.int .i64 0, .int .i64 0, .int .i64 0, .int .i64 33] 36)) = w9 at *
    clear h4 h5 h6 h7 h8 HFs
    go_loopw [9, 10] (fun i _ wr => ∃ (j : Nat), j ≤ 4 ∧ i = .int .i64 (j : Int) ∧ wr = w9) (fun i _ _ => 4 - (intOf i).toNat)
    case atStart => exact ⟨0, by omega, rfl, rfl⟩
    case round =>
      obtain ⟨j, hj, rfl, hwr⟩ := hrel
      subst hwr
      rcases (by omega : j = 0 ∨ j = 1 ∨ j = 2 ∨ j = 3 ∨ j = 4) with rfl | rfl | rfl | rfl | rfl
      · skip
        go_wp2_with fail
        go_roundw
        case rel => exact ⟨1, by omega, by rfl, trivial⟩
        case measure => decide
      · skip
        go_wp2_with fail
        go_roundw
        case rel => exact ⟨2, by omega, by rfl, trivial⟩
        case measure => decide
      · skip
        go_wp2_with fail
        go_roundw
        case rel => exact ⟨3, by omega, by rfl, trivial⟩
        case measure => decide
      · skip
        go_wp2_with fail
        go_roundw
        case rel => exact ⟨4, by omega, by rfl, trivial⟩
        case measure => decide
      · go_wp2_with fail
        refine (crash_nil h9.out (by omega) 0).mono ?_
        rintro e w10 ⟨x, rfl, hx, hp⟩
        have hx10 := Lib.hid hx
        have hp10 := Lib.hid hp
        clear hx hp e0 e1 e2 e3
        go_wp2_with fail
        refine (read_l hp10.out (by omega) nF (by decide)).mono ?_
        intro e w11 hr1
        rw [(fread _ _ _ _ _)] at hr1
        obtain ⟨v1, rfl, hv1, hb11⟩ := hr1
        obtain ⟨a1, k1, rfl, -, -, hbv1, -⟩ := hv1.bvn hbz _ rfl
        have H11 := Lib.hid (And.intro hbv1 (And.intro (hx10.out.below hb11) (hp10.out.below hb11)))
        clear hv1 hbv1 hb11
        go_wp2_with fail
        refine (steps_l H11.out.2.2).mono ?_
        rintro e w12 ⟨rfl, ew⟩
        subst ew
        go_wp2_with fail
        refine (read_l H11.out.2.1 (by omega) nF (by decide)).mono ?_
        intro e w13 hr2
        rw [(ffound4 _ _ _).1] at hr2
        obtain ⟨v2, rfl, hv2, hb13⟩ := hr2
        obtain ⟨a2, k2, rfl, -, -, hbv2, -⟩ := hv2.bvn (by simp) _ rfl
        have H13 := Lib.hid (And.intro (H11.out.2.1.below hb13) (H11.out.2.2.below hb13))
        have f1 := fun wq (hq : Old w13 wq) => conv_any ((H11.out.1.below hb13).old hq) k1
        have f2 := fun wq (hq : Old w13 wq) => conv_any (hbv2.old hq) k2
        have f3 := fun wq (hq : Old w13 wq) => conv_any (((H1.out.1.ld H11.out.2.2).below hb13).old hq) c
        have f4 := fun wq (hq : Old w13 wq) => conv_any (((HH.out.1.ld H11.out.2.2).below hb13).old hq) c
        have HBw := Lib.hid (H1.out.2.2.2.1.trans (H13.out.2.2.mono H1.out.2.2.2.1.size))
        clear hv2 hbv2 hb13 hx10 hp10
        have g1 := f1 w13 (Old.refl _)
        have g3 := f3 w13 (Old.refl _)
        clear f1 f2 f3 f4
        go_wp2_with fail
        refine (names_l H13.out.1 (by omega)).mono ?_
        rintro e w14 ⟨v, rfl, ho, hb14⟩
        obtain ⟨a3, k3, rfl, -⟩ := ho.shape
        have HB := Lib.hid (HBw.out.trans (hb14.mono HBw.out.size))
        clear ho hb14
        go_wp2_with fail
        go_ret
        exact ⟨by rfl, HB.out⟩
end Go.Proofs.Ytlagmjdldplblaa
/-
  DiskFails: for every slice of bytes and every byte the statement's function returns true, and its arguments read as they did. No condition.
-/
namespace Go.Proofs.Ytlagmjdldplblaa.diskFails
open Go.ChangeShapes Go.WideShapes Go.ChangeAt Go.RowKit
set_option linter.unusedVariables false
set_option maxRecDepth 4000

set_option maxRecDepth 100000 in
theorem lifted (os : Os) (started : os.Started) (H : Type) (enc : TypeId × Value → H) :
    ReturnsInHanded {} Try.checked os 5 .any (Rows.diskFailsSpec.pre6 enc Try.prog Try.f5 Rows.diskFailsRow.domain false) (Rows.diskFailsSpec.post enc Try.prog Try.f5 false true false false) := by
  refine returnsInHanded_of_change (C := Try.checked) own started (by kernel_rfl) Try.func5
    (ChangeSpec.witness6 (enc := enc) (C := Try.checked) false ⟨#[], #[.slice none 0 0, .int .u8 0], []⟩ 8 (by kernel_rfl) (by kernel_rfl) (by kernel_rfl) (by kernel_rfl)) ?_
  intro W base args ds gs before hval0 hW hcnd _
  have hval : ∀ (j : Nat) t v, Try.f5.params[j]? = some t → args[j]? = some v → Value.okWide Try.prog W .any base t v := hval0
  have hW' := hW
  obtain ⟨p, q, hA0, hV, rfl, hfz, hnd⟩ := hW
  have hA : DataW.TrodAll enc Try.prog W 0 (fun _ => true) true Try.f5.params.toList args.toList ds p := hA0
  rw [Try.params5] at hA hval
  obtain ⟨v0, vs0, d0, ds0, p0, q0, hargs0, rfl, rfl, h0, r0⟩ := trodAll_cons hA
  obtain ⟨v1, vs1, d1, ds1, p1, q1, hargs1, hds1, hq1, h1, r1⟩ := trodAll_cons r0
  obtain ⟨hn1, hn2, hn3⟩ := trodAll_nil r1
  subst hn2 hn3
  subst hds1 hq1
  obtain rfl : args = #[v0, v1] := by cases args; simp_all
  obtain ⟨rfl, rfl⟩ := trodVars_none hV
  have rd0 := h0
  have lt0 : ∀ x ∈ p0, x.block < W.heap.size := by obtain ⟨m, hm⟩ := rd0; exact DataW.trod_lt m _ _ _ hm
  obtain ⟨A0, n0, c0, z0, rfl, W0, L0⟩ := open_bytes (hval 0 28 v0 rfl rfl) h0
  have rd1 := h1
  have lt1 : ∀ x ∈ p1, x.block < W.heap.size := by obtain ⟨m, hm⟩ := rd1; exact DataW.trod_lt m _ _ _ hm
  obtain ⟨a1, rfl, B1⟩ := open_u8 (hval 1 5 v1 rfl rfl) h1
  clear hA0 hval0
  refine (fails8_is A0 n0 c0 z0 a1 W W0 L0 B1).mono fun e W' ⟨he, bel⟩ => ?_
  subst he
  exact ⟨_, rfl, _, _, _, [], _, [], hW', trodAll_mk1 (shut_bool Try.underlying4 _), (trodAll_cons_mk (Below.trod laidOut (by kernel_rfl) (of_decide_eq_true (by kernel_rfl)) rd0 bel lt0) (trodAll_cons_mk (Below.trod laidOut (by kernel_rfl) (of_decide_eq_true (by kernel_rfl)) rd1 bel lt1) trodAll_mk0)), rfl, bel.frame _, fun h => by cases h⟩

theorem over : Rows.diskFailsRow.holds Try.pinned (OpenSpec.ofChange Rows.diskFailsSpec) :=
  OpenClaim.holds_of_wide 5 Try.f5 rfl rfl rfl rfl rfl rfl rfl ⟨rfl, rfl, rfl, rfl, rfl⟩ rfl rfl rfl rfl rfl (by kernel_rfl) Try.func5 (by kernel_rfl)
    (of_decide_eq_true (by kernel_rfl)) (by unfold Func.isWrapper; first | (rw [if_pos (by decide +kernel)]; kernel_rfl) | (rw [if_neg (by decide +kernel)]; exact ⟨rfl, rfl⟩))
    (fun os started H enc _ => lifted os started H enc)
end Go.Proofs.Ytlagmjdldplblaa.diskFails
namespace Go.Proofs.Ytlagmjdldplblaa
theorem diskFails_holds : Rows.DiskFailsSaid := diskFails.over
end Go.Proofs.Ytlagmjdldplblaa
