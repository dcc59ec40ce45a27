/-
  DiskEnds: for every byte, every slice of bytes and every number the statement's function returns true, and its arguments read as they did. No condition.
-/
import Derived.Test.YtlagmjdldplblaaBase
import Derived.Lib.SmallJoins
import Derived.Test.YtlagmjdldplblaaDiskF
import Derived.Test.YtlagmjdldplblaaRows
import Derived.WalkKit
import Derived.ProofKit
import Derived.OpenShut
import Derived.ShutString
import Derived.ChangeOld
import Derived.Below
/- How the statements' arguments come in: a number and ints in one struct. -/
namespace Go.Proofs.Ytlagmjdldplblaa
open Go.ChangeShapes Go.WideShapes Go.ChangeAt Go.RowKit
set_option linter.unusedVariables false
set_option maxRecDepth 4000

section
variable {H : Type} {enc : TypeId × Value → H} {w : World} {base fuel : Nat} {spare : Nat → Bool} {held : Bool}
theorem int8_of {t : TypeId} (ht : Try.prog.underlying t = some (.int .i64)) {c : Value} {y : DataW H × List MemPlace} (h : DataW.trod enc Try.prog w base spare held fuel t [c] = some y) : ∃ z : Int, c = .int .i64 z ∧ -9223372036854775808 ≤ z ∧ z ≤ 9223372036854775807 := by
  obtain ⟨z, hz, _, wz⟩ := DataW.trod_int ht h
  have := bounds_i64 wz
  exact ⟨z, by simpa using hz, this.1, this.2⟩
theorem open_left {r : Reach} {b0 : Nat} {v : Value} {d : DataW H} {p : List MemPlace} (hv : Value.okWide Try.prog w r b0 63 v) (h : DataW.Trod enc Try.prog w base spare held 63 v d p) :
    ∃ (x : Int) (A : Option Addr) (n c : Nat) (ts : List Int), v = .agg #[.int .i64 x, .slice A n c] ∧ IV w A n ts ∧ n ≤ c ∧ (-9223372036854775808 ≤ x ∧ x ≤ 9223372036854775807) ∧ Rgs ts := by
  obtain ⟨v0, v1, y0, y1, f, rfl, -, -, h0, h1⟩ := Joins.open_agg2 Try.underlying63 (by kernel_rfl) (by kernel_rfl) hv h
  obtain ⟨x, rfl, hx⟩ := int8_of Try.underlying3 h0
  obtain ⟨A, n, c, ts, hc, q1, q2, q3, q4, q5, q6⟩ := open_intsS Try.underlying29 (by kernel_rfl) Try.underlying3 h1
  simp only [List.cons.injEq, and_true] at hc
  subst hc
  exact ⟨x, A, n, c, ts, rfl, q5, q1, hx, q4⟩
theorem open_gint8 {r : Reach} {b0 : Nat} {v : Value} {d : DataW H} {p : List MemPlace} (hv : Value.okWide Try.prog w r b0 3 v) (h : DataW.Trod enc Try.prog w base spare held 3 v d p) : ∃ a : Int, v = .int .i64 a ∧ (-9223372036854775808 ≤ a ∧ a ≤ 9223372036854775807) := by
  obtain ⟨a, rfl, -, -, wa⟩ := open_int Try.underlying3 hv h
  exact ⟨a, rfl, bounds_i64 wa⟩
end
end Go.Proofs.Ytlagmjdldplblaa
/- The statement DiskFails: plain part. -/
namespace Go.Proofs.Ytlagmjdldplblaa
set_option linter.unusedVariables false
set_option maxRecDepth 4000

theorem append_gen {M M1 : DK} {e : Int} (hst : stepD M = (M1, e)) (he : e ≠ 34) {s : ByteArray} {f : Nat} (hn : findN M1.names s = some f) {b : List Int} (hq : ((usedD M1 + b.length : Nat) : Int) ≤ M1.quota) :
    appendD M s b = (putD M1 f ((flN M1 f).1 ++ (if e = 33 then b.take (b.length / 2) else b), (flN M1 f).2), e) := by
  unfold appendD
  rw [hst, if_neg (by exact he)]
  unfold appendedD
  simp only [hn]
  rw [if_pos hq]
/-- the disk with the file f -/
def fM (k : Int) (n : Nat) (x : Fl8) (kept : List Nm8) (chs : List Ch8) : DK := ⟨1000, n, [x], [(nF, 0)], kept, chs, [k, 9, k], none, false⟩
def fM0 (k : Int) : DK := failD (newD 1000) [k, 9, k]
abbrev fC : List Ch8 := [⟨none, some (nF, 0)⟩]
theorem fails1 (b : List Int) : createD (fM0 1) nF = (⟨1000, 1, [], [], [], [], [1, 9, 1], none, false⟩, 33) ∧
    appendD ⟨1000, 1, [], [], [], [], [1, 9, 1], none, false⟩ nF b = (⟨1000, 2, [], [], [], [], [1, 9, 1], none, false⟩, 30) ∧
    syncD ⟨1000, 2, [], [], [], [], [1, 9, 1], none, false⟩ nF = (⟨1000, 3, [], [], [], [], [1, 9, 1], none, false⟩, 30) ∧
    syncDirD ⟨1000, 3, [], [], [], [], [1, 9, 1], none, false⟩ = (⟨1000, 4, [], [], [], [], [1, 9, 1], none, false⟩, 0) := ⟨rfl, rfl, rfl, rfl⟩
theorem fails2 {b : List Int} (hb : b.length ≤ 100) : createD (fM0 2) nF = (fM 2 1 ([], 0) [] fC, 0) ∧ appendD (fM 2 1 ([], 0) [] fC) nF b = (fM 2 2 (b.take (b.length / 2), 0) [] fC, 33) ∧
    syncD (fM 2 2 (b.take (b.length / 2), 0) [] fC) nF = (fM 2 3 (b.take (b.length / 2), (b.take (b.length / 2)).length) [] fC, 0) ∧
    syncDirD (fM 2 3 (b.take (b.length / 2), (b.take (b.length / 2)).length) [] fC) = (fM 2 4 (b.take (b.length / 2), (b.take (b.length / 2)).length) [(nF, 0)] [], 0) := by
  refine ⟨rfl, ?_, rfl, rfl⟩
  rw [append_gen (M1 := fM 2 2 ([], 0) [] fC) (e := 33) (f := 0) rfl (by decide) rfl (by show ((0 + b.length : Nat) : Int) ≤ 1000; omega)]
  rfl
theorem fails3 {b : List Int} (hb : b.length ≤ 100) : createD (fM0 3) nF = (fM 3 1 ([], 0) [] fC, 0) ∧ appendD (fM 3 1 ([], 0) [] fC) nF b = (fM 3 2 (b, 0) [] fC, 0) ∧
    syncD (fM 3 2 (b, 0) [] fC) nF = (fM 3 3 (b, 0) [] fC, 33) ∧ syncDirD (fM 3 3 (b, 0) [] fC) = (fM 3 4 (b, 0) [(nF, 0)] [], 0) := by
  refine ⟨rfl, ?_, rfl, rfl⟩
  rw [append_gen (M1 := fM 3 2 ([], 0) [] fC) (e := 0) (f := 0) rfl (by decide) rfl (by show ((0 + b.length : Nat) : Int) ≤ 1000; omega)]
  rfl
theorem fails4 {b : List Int} (hb : b.length ≤ 100) : createD (fM0 4) nF = (fM 4 1 ([], 0) [] fC, 0) ∧ appendD (fM 4 1 ([], 0) [] fC) nF b = (fM 4 2 (b, 0) [] fC, 0) ∧
    syncD (fM 4 2 (b, 0) [] fC) nF = (fM 4 3 (b, b.length) [] fC, 0) ∧ syncDirD (fM 4 3 (b, b.length) [] fC) = (fM 4 4 (b, b.length) [] fC, 33) := by
  refine ⟨rfl, ?_, rfl, rfl⟩
  rw [append_gen (M1 := fM 4 2 ([], 0) [] fC) (e := 0) (f := 0) rfl (by decide) rfl (by show ((0 + b.length : Nat) : Int) ≤ 1000; omega)]
  rfl
theorem fread (k : Int) (n : Nat) (x : Fl8) (kept : List Nm8) (chs : List Ch8) : readD (fM k n x kept chs) nF = (x.1, 0) := rfl
theorem ffound (k : Int) (n : Nat) (x : List Int) : readD (crashD (fM k n (x, x.length) [(nF, 0)] []) 0 []) nF = (x, 0) := read_whole (f := 0) rfl rfl
theorem ffound3 (k : Int) (n : Nat) (x : List Int) : readD (crashD (fM k n (x, 0) [(nF, 0)] []) 0 []) nF = ([], 0) := rfl
theorem ffound4 (k : Int) (n : Nat) (x : Fl8) : readD (crashD (fM k n x [] fC) 0 []) nF = ([], 30) ∧ (crashD (fM k n x [] fC) 0 []).names.length = 0 := ⟨rfl, rfl⟩
theorem ffound1 : readD ⟨1000, 4, [], [], [], [], [1, 9, 1], none, false⟩ nF = ([], 30) ∧ readD (crashD ⟨1000, 4, [], [], [], [], [1, 9, 1], none, false⟩ 0 []) nF = ([], 30) := ⟨rfl, rfl⟩
end Go.Proofs.Ytlagmjdldplblaa
/- The statement DiskEnds: plain part. -/
namespace Go.Proofs.Ytlagmjdldplblaa
set_option linter.unusedVariables false
set_option maxRecDepth 4000

theorem create_gen {M M1 : DK} (hst : stepD M = (M1, 0)) (s : ByteArray) : createD M s = createdD M1 s := by
  unfold createD thenD; rw [hst]; exact if_pos rfl
theorem syncDir_gen {M M1 : DK} (hst : stepD M = (M1, 0)) : syncDirD M = (keptD M1, 0) := by
  unfold syncDirD thenD; rw [hst]; exact if_pos rfl
/-- the name that DiskEnds makes at step j -/
def eN (j : Nat) : ByteArray := ({ data := #[102] } : ByteArray) ++ strOfNums [97 + (j : Int)]
abbrev e0N : ByteArray := { data := #[102, 97] }
abbrev e3N : ByteArray := { data := #[102, 100] }
abbrev e6N : ByteArray := { data := #[102, 103] }
abbrev e9N : ByteArray := { data := #[102, 106] }
theorem eN_size (j : Nat) (h : j < 12) : (eN j).size ≤ 1000 := by
  have : ∀ j, j < 12 → (eN j).size ≤ 1000 := by decide
  exact this j h
theorem eN0 : eN 0 = e0N := by decide
theorem eN3 : eN 3 = e3N := by decide
theorem eN6 : eN 6 = e6N := by decide
theorem eN9 : eN 9 = e9N := by decide
def flE (b : List Int) : Nat → List Fl8
  | 0 => []
  | 1 => [([], 0)]
  | 2 => [(b, 0)]
  | 3 => [(b, 0)]
  | 4 => [(b, 0), ([], 0)]
  | 5 => [(b, 0), (b, 0)]
  | 6 => [(b, 0), (b, 0)]
  | 7 => [(b, 0), (b, 0), ([], 0)]
  | 8 => [(b, 0), (b, 0), (b, 0)]
  | 9 => [(b, 0), (b, 0), (b, 0)]
  | _ => [(b, 0), (b, 0), (b, 0), ([], 0)]
def nmE : Nat → List Nm8
  | 0 => []
  | 1 => [(e0N, 0)]
  | 2 => [(e0N, 0)]
  | 3 => [(e0N, 0)]
  | 4 => [(e0N, 0), (e3N, 1)]
  | 5 => [(e0N, 0), (e3N, 1)]
  | 6 => [(e0N, 0), (e3N, 1)]
  | 7 => [(e0N, 0), (e3N, 1), (e6N, 2)]
  | 8 => [(e0N, 0), (e3N, 1), (e6N, 2)]
  | 9 => [(e0N, 0), (e3N, 1), (e6N, 2)]
  | _ => [(e0N, 0), (e3N, 1), (e6N, 2), (e9N, 3)]
def kpE (j : Nat) : List Nm8 := nmE (j / 3 * 3)
def chE : Nat → List Ch8
  | 1 => [⟨none, some (e0N, 0)⟩]
  | 2 => [⟨none, some (e0N, 0)⟩]
  | 4 => [⟨none, some (e3N, 1)⟩]
  | 5 => [⟨none, some (e3N, 1)⟩]
  | 7 => [⟨none, some (e6N, 2)⟩]
  | 8 => [⟨none, some (e6N, 2)⟩]
  | 10 => [⟨none, some (e9N, 3)⟩]
  | _ => []
/-- the disk of DiskEnds behind j steps that were taken -/
def stE (k : Nat) (b : List Int) (j : Nat) : DK := ⟨10000, j, flE b j, nmE j, kpE j, chE j, [], some k, false⟩
def ddE (k : Nat) (b : List Int) : DK := { stE k b k with dead := true }
def eE (k : Nat) (b : List Int) (j : Nat) : DK := if j ≤ k then stE k b j else ddE k b
theorem stE_step {k j : Nat} (b : List Int) (h : j < k) : stepD (stE k b j) = ({ stE k b j with taken := j + 1 }, 0) := by
  unfold stepD
  rw [if_neg (by
    rintro (h1 | ⟨n, h1, h2⟩)
    · exact absurd h1 (by show ¬ false = true; decide)
    · have h3 : k = n := Option.some.inj h1
      have h4 : n ≤ j := h2
      omega)]
  rfl
theorem eE_dead {k j : Nat} (b : List Int) (h : ¬ j < k) : stepD (eE k b j) = (ddE k b, 34) := by
  unfold eE
  by_cases hj : j ≤ k
  · obtain rfl : j = k := by omega
    rw [if_pos hj]
    unfold stepD
    rw [if_pos (.inr ⟨j, rfl, Nat.le_refl _⟩)]; rfl
  · rw [if_neg hj]
    unfold stepD
    rw [if_pos (.inl rfl)]; rfl
theorem eE_next {k j : Nat} (b : List Int) (h : ¬ j < k) : eE k b (j + 1) = ddE k b := if_neg (by omega)
theorem ends_create {k j : Nat} {b : List Int} (hk : k ≤ 10) (hj : j < 12) (h3 : j % 3 = 0) : createD (eE k b j) (eN j) = (eE k b (j + 1), if j < k then 0 else 34) := by
  by_cases h : j < k
  · rw [if_pos h, eE, if_pos (by omega), eE, if_pos (by omega), create_gen (stE_step b h)]
    rcases (by omega : j = 0 ∨ j = 3 ∨ j = 6 ∨ j = 9) with rfl | rfl | rfl | rfl
    · rw [eN0]; rfl
    · rw [eN3]; rfl
    · rw [eN6]; rfl
    · rw [eN9]; rfl
  · rw [if_neg h, eE_next b h, createD, thenD, eE_dead b h, if_neg (by show ¬ (34 : Int) = 0; decide)]
theorem ends_append {k j : Nat} {b : List Int} (hk : k ≤ 10) (hb : b.length ≤ 100) (hj : j < 12) (h3 : j % 3 = 1) : appendD (eE k b j) (eN (j - 1)) b = (eE k b (j + 1), if j < k then 0 else 34) := by
  by_cases h : j < k
  · rw [if_pos h, eE, if_pos (by omega), eE, if_pos (by omega)]
    rcases (by omega : j = 1 ∨ j = 4 ∨ j = 7) with rfl | rfl | rfl
    · show appendD _ (eN 0) b = _
      rw [eN0, append_gen (stE_step b h) (by decide) (f := 0) rfl (by show ((0 + b.length : Nat) : Int) ≤ 10000; omega)]; rfl
    · show appendD _ (eN 3) b = _
      rw [eN3, append_gen (stE_step b h) (by decide) (f := 1) rfl (by show ((b.length + 0 + b.length : Nat) : Int) ≤ 10000; omega)]; rfl
    · show appendD _ (eN 6) b = _
      rw [eN6, append_gen (stE_step b h) (by decide) (f := 2) rfl (by show ((b.length + (b.length + 0) + b.length : Nat) : Int) ≤ 10000; omega)]; rfl
  · rw [if_neg h, eE_next b h, appendD, eE_dead b h, if_pos rfl]
theorem ends_sync {k j : Nat} {b : List Int} (hk : k ≤ 10) (hj : j < 12) (h3 : j % 3 = 2) : syncDirD (eE k b j) = (eE k b (j + 1), if j < k then 0 else 34) := by
  by_cases h : j < k
  · rw [if_pos h, eE, if_pos (by omega), eE, if_pos (by omega), syncDir_gen (stE_step b h)]
    rcases (by omega : j = 2 ∨ j = 5 ∨ j = 8) with rfl | rfl | rfl <;> rfl
  · rw [if_neg h, eE_next b h, syncDirD, thenD, eE_dead b h, if_neg (by show ¬ (34 : Int) = 0; decide)]
theorem ends_new (k : Nat) (b : List Int) : limitD (newD 10000) k = eE k b 0 := by
  rw [eE, if_pos (by omega)]
  show (⟨_, _, _, _, _, _, _, some (max (k : Int) 0).toNat, _⟩ : DK) = _
  rw [show (max (k : Int) 0).toNat = k by omega]; rfl
/-- the disk of DiskEnds at the end -/
def enE (k : Nat) (b : List Int) : DK := limitD (ddE k b) 100
theorem ends_late (k : Nat) (b : List Int) : syncDirD (enE k b) = (enE k b, 34) ∧ readD (enE k b) e0N = ([], 34) ∧ (enE k b).taken = k := by
  refine ⟨?_, rfl, rfl⟩
  have h : stepD (enE k b) = (enE k b, 34) := by unfold stepD; rw [if_pos (.inl rfl)]; rfl
  rw [syncDirD, thenD, h, if_neg (by show ¬ (34 : Int) = 0; decide)]
theorem ends_found {k : Nat} {b : List Int} (hk : k ≤ 10) (t : Int) : (crashD (enE k b) 9 [t]).names.length = (k + 2) / 3 ∧ usedD (crashD (enE k b) 9 [t]) ≤ usedD (enE k b) ∧ (syncDirD (crashD (enE k b) 9 [t])).2 = 0 := by
  refine ⟨?_, ?_, ?_⟩
  · rcases (by omega : k = 0 ∨ k = 1 ∨ k = 2 ∨ k = 3 ∨ k = 4 ∨ k = 5 ∨ k = 6 ∨ k = 7 ∨ k = 8 ∨ k = 9 ∨ k = 10) with rfl | rfl | rfl | rfl | rfl | rfl | rfl | rfl | rfl | rfl | rfl <;> rfl
  · have hl : leftD (enE k b) 9 = nmE k := by
      rcases (by omega : k = 0 ∨ k = 1 ∨ k = 2 ∨ k = 3 ∨ k = 4 ∨ k = 5 ∨ k = 6 ∨ k = 7 ∨ k = 8 ∨ k = 9 ∨ k = 10) with rfl | rfl | rfl | rfl | rfl | rfl | rfl | rfl | rfl | rfl | rfl <;> rfl
    have hc : crashD (enE k b) 9 [t] = ⟨10000, 0, foundL (flE b k) [t] 0 (nmE k), numberN 0 (nmE k), numberN 0 (nmE k), [], [], none, false⟩ := by unfold crashD; rw [hl]; rfl
    rw [hc]
    show usedL (foundL (flE b k) [t] 0 (nmE k)) (numberN 0 (nmE k)) ≤ usedL (flE b k) (nmE k)
    rcases (by omega : k = 0 ∨ k = 1 ∨ k = 2 ∨ k = 3 ∨ k = 4 ∨ k = 5 ∨ k = 6 ∨ k = 7 ∨ k = 8 ∨ k = 9 ∨ k = 10) with rfl | rfl | rfl | rfl | rfl | rfl | rfl | rfl | rfl | rfl | rfl <;>
      simp [usedL, foundL, numberN, nmE, flE, List.length_take] <;> omega
  · rfl
end Go.Proofs.Ytlagmjdldplblaa
/- The statement DiskEnds. -/
namespace Go.Proofs.Ytlagmjdldplblaa
open Go.ChangeShapes Go.WideShapes Go.ChangeAt Go.RowKit Go.WideMaps Go.Maps
set_option linter.unusedVariables false
set_option maxRecDepth 4000

theorem BV.ld' {w0 w : World} {p k : Nat} {M : DK} {A : Option Addr} {n : Nat} {zs : List Int} (h : BV w0 A n zs) (hd : LD w0 w p k M) : BV w A n zs := h.below hd.2
theorem eN_conv (j : Nat) : ({ data := #[102] } : ByteArray) ++ strOfNums [97 + (j : Int)] = eN j := rfl
set_option maxHeartbeats 4000000 in
theorem ends8_is (A : Option Addr) (n c : Nat) (xs : List Int) (a t : Int) (w : World) (hA : BV w A n xs) (hnc : n ≤ c) (ha : 0 ≤ a ∧ a ≤ 255) (ht : -9223372036854775808 ≤ t ∧ t ≤ 9223372036854775807) :
    Calls Try.prog 6 #[.int .u8 a, .slice A n c, .int .i64 t] w fun e w' => e = .returned (.bool true) ∧ Below w.heap.size w w' := by
  have hs := Lib.hid (shown8_is w)
  have HI := Lib.hid hA
  obtain ⟨k, hkE⟩ : ∃ k : Nat, a.tmod 11 = (k : Int) := ⟨(a % 11).toNat, by rw [Int.tmod_eq_emod_of_nonneg ha.1]; omega⟩
  have hk10 : k ≤ 10 := by rw [Int.tmod_eq_emod_of_nonneg ha.1] at hkE; omega
  clear hA
  go_enter Try.func6, Try.ntmps6
  go_wp2_with fail
  refine hs.out.mono ?_
  rintro e w1 ⟨rfl, hb1⟩
  obtain ⟨m1, z1, hz1, hl1, hc1, h100, hv1, hlo1, hf1⟩ := few_l (HI.out.below hb1) hnc
  have H1 := Lib.hid (And.intro hv1 (And.intro hlo1 (And.intro hf1 (And.intro hb1 hl1))))
  clear hb1 HI hs hv1 hlo1 hf1 hz1 hl1
  go_wp2_with fail
  refine (new_l w1 10000 (by unfold maxI; omega)).mono ?_
  rintro e w2 ⟨p, rfl, hL⟩
  have h2 := Lib.hid hL
  clear hL
  go_wp2_with fail
  refine (H1.out.2.2.1 w2 h2.out.2).mono ?_
  rintro e w3 ⟨rfl, e3⟩
  subst e3
  go_wp2_with fail
  refine (limit_l h2.out (k : Int) (by unfold maxI; omega)).mono ?_
  rintro e w4 ⟨rfl, hL⟩
  rw [ends_new k z1] at hL
  have h4 := Lib.hid hL
  clear hL h2
  go_wp2_with fail
  have hb100 : z1.length ≤ 100 := by rw [H1.out.2.2.2.2]; exact h100
  go_loopw [10, 11] (fun u i wr => ∃ (j : Nat), j ≤ 12 ∧ i = .int .i64 (j : Int) ∧ u = .int .i64 ((min j k : Nat) : Int) ∧ LD w1 wr p (3 * j) (eE k z1 j)) (fun _ i _ => 12 - (intOf i).toNat)
  case atStart => exact ⟨0, by omega, rfl, by simp, h4.out.more (by omega)⟩
  case round =>
    obtain ⟨j, hj, rfl, rfl, hlr⟩ := hrel
    have hr := Lib.hid hlr
    clear hlr h4
    by_cases hj12 : j < 12
    · have hji : (j : Int) < 12 := by omega
      have hA97 : IntKind.i64.wrap (97 + (j : Int)) = 97 + (j : Int) := by rw [IntKind.wrap_i64]; omega
      have hA96 : IntKind.i64.wrap (97 + (j : Int) - 1) = 96 + (j : Int) := by rw [IntKind.wrap_i64]; omega
      have hA1 : IntKind.i64.wrap ((j : Int) + 1) = ((j + 1 : Nat) : Int) := by rw [IntKind.wrap_i64]; omega
      have hU97 : IntKind.u8.wrap (97 + (j : Int)) = 97 + (j : Int) := by rw [IntKind.wrap_u8]; omega
      rcases (by omega : j % 3 = 0 ∨ j % 3 = 1 ∨ j % 3 = 2) with h3 | h3 | h3
      · have hm : (j : Int).tmod 3 = 0 := by rw [Int.tmod_eq_emod_of_nonneg (by omega)]; omega
        have hcv := conv_any (bvC wr [97 + (j : Int)] 1 #[.int .u8 (97 + (j : Int))] 5 (0, 0) rfl rfl (by intro z hz; simp only [List.mem_singleton] at hz; subst hz; omega)) 1
        have hr5 := Lib.hid (hr.out.alloc (.cells #[.int .u8 (97 + (j : Int))] 5))
        by_cases hjk : j < k
        · skip
          rw [show min j k = j by omega]
          have hjki : (j : Int) < (k : Int) := by omega
          go_wp2_with fail
          refine (create_l hr5.out (by omega) (eN j) (eN_size j hj12)).mono ?_
          intro e w5 hL
          rw [ends_create hk10 hj12 h3] at hL
          obtain ⟨rfl, hL⟩ := hL
          rw [if_pos hjk]
          have h5 := Lib.hid hL
          clear hL hr hr5
          go_wp2_with fail
          go_roundw
          case rel => exact ⟨j + 1, by omega, by rfl, by rw [show min (j + 1) k = j + 1 by omega]; rfl, h5.out.more (by omega)⟩
          case measure => simp only [intOf]; omega
        · skip
          rw [show min j k = k by omega]
          have hjki : ¬ (j : Int) < (k : Int) := by omega
          go_wp2_with fail
          refine (create_l hr5.out (by omega) (eN j) (eN_size j hj12)).mono ?_
          intro e w5 hL
          rw [ends_create hk10 hj12 h3] at hL
          obtain ⟨rfl, hL⟩ := hL
          rw [if_neg hjk]
          have h5 := Lib.hid hL
          clear hL hr hr5
          go_wp2_with fail
          go_roundw
          case rel => exact ⟨j + 1, by omega, by rfl, by rw [show min (j + 1) k = k by omega], h5.out.more (by omega)⟩
          case measure => simp only [intOf]; omega
      · have hm : (j : Int).tmod 3 = 1 := by rw [Int.tmod_eq_emod_of_nonneg (by omega)]; omega
        have hU96 : IntKind.u8.wrap (96 + (j : Int)) = 97 + ((j - 1 : Nat) : Int) := by rw [IntKind.wrap_u8]; omega
        have hcv := conv_any (bvC wr [97 + ((j - 1 : Nat) : Int)] 1 #[.int .u8 (97 + ((j - 1 : Nat) : Int))] 5 (0, 0) rfl rfl (by intro z hz; simp only [List.mem_singleton] at hz; subst hz; omega)) 1
        have hr5 := Lib.hid (hr.out.alloc (.cells #[.int .u8 (97 + ((j - 1 : Nat) : Int))] 5))
        by_cases hjk : j < k
        · skip
          rw [show min j k = j by omega]
          have hjki : (j : Int) < (k : Int) := by omega
          go_wp2_with fail
          refine (append_l hr5.out (by omega) (eN (j - 1)) (eN_size (j - 1) (by omega)) A m1 c z1 (H1.out.1.ld' hr5.out) hc1 (by omega) H1.out.2.1).mono ?_
          intro e w5 hL
          rw [ends_append hk10 hb100 hj12 h3] at hL
          obtain ⟨rfl, hL⟩ := hL
          rw [if_pos hjk]
          have h5 := Lib.hid hL
          clear hL hr hr5
          go_wp2_with fail
          go_roundw
          case rel => exact ⟨j + 1, by omega, by rfl, by rw [show min (j + 1) k = j + 1 by omega]; rfl, h5.out.more (by omega)⟩
          case measure => simp only [intOf]; omega
        · skip
          rw [show min j k = k by omega]
          have hjki : ¬ (j : Int) < (k : Int) := by omega
          go_wp2_with fail
          refine (append_l hr5.out (by omega) (eN (j - 1)) (eN_size (j - 1) (by omega)) A m1 c z1 (H1.out.1.ld' hr5.out) hc1 (by omega) H1.out.2.1).mono ?_
          intro e w5 hL
          rw [ends_append hk10 hb100 hj12 h3] at hL
          obtain ⟨rfl, hL⟩ := hL
          rw [if_neg hjk]
          have h5 := Lib.hid hL
          clear hL hr hr5
          go_wp2_with fail
          go_roundw
          case rel => exact ⟨j + 1, by omega, by rfl, by rw [show min (j + 1) k = k by omega], h5.out.more (by omega)⟩
          case measure => simp only [intOf]; omega
      · have hm : (j : Int).tmod 3 = 2 := by rw [Int.tmod_eq_emod_of_nonneg (by omega)]; omega
        have hr5 := hr
        by_cases hjk : j < k
        · skip
          rw [show min j k = j by omega]
          have hjki : (j : Int) < (k : Int) := by omega
          go_wp2_with fail
          refine (syncDir_l hr5.out (by omega)).mono ?_
          intro e w5 hL
          rw [ends_sync hk10 hj12 h3] at hL
          obtain ⟨rfl, hL⟩ := hL
          rw [if_pos hjk]
          have h5 := Lib.hid hL
          clear hL hr hr5
          go_wp2_with fail
          go_roundw
          case rel => exact ⟨j + 1, by omega, by rfl, by rw [show min (j + 1) k = j + 1 by omega]; rfl, h5.out.more (by omega)⟩
          case measure => simp only [intOf]; omega
        · skip
          rw [show min j k = k by omega]
          have hjki : ¬ (j : Int) < (k : Int) := by omega
          go_wp2_with fail
          refine (syncDir_l hr5.out (by omega)).mono ?_
          intro e w5 hL
          rw [ends_sync hk10 hj12 h3] at hL
          obtain ⟨rfl, hL⟩ := hL
          rw [if_neg hjk]
          have h5 := Lib.hid hL
          clear hL hr hr5
          go_wp2_with fail
          go_roundw
          case rel => exact ⟨j + 1, by omega, by rfl, by rw [show min (j + 1) k = k by omega], h5.out.more (by omega)⟩
          case measure => simp only [intOf]; omega
    · obtain rfl : j = 12 := by omega
      rw [show min 12 k = k by omega]
      go_wp2_with fail
      refine (limit_l hr.out 100 (by unfold maxI; omega)).mono ?_
      rintro e w5 ⟨rfl, hL⟩
      rw [eE, if_neg (by omega), show limitD (ddE k z1) 100 = enE k z1 from rfl] at hL
      have h5 := Lib.hid hL
      obtain ⟨he1, he2, he3⟩ := ends_late k z1
      obtain ⟨hf1, hf2, hf3⟩ := ends_found (b := z1) hk10 t
      have HE := Lib.hid (And.intro he1 (And.intro he2 (And.intro he3 (And.intro hf1 (And.intro hf2 hf3)))))
      clear hL hr he1 he2 he3 hf1 hf2 hf3
      go_wp2_with fail
      refine (syncDir_l h5.out (by omega)).mono ?_
      intro e w6 hL
      rw [HE.out.1] at hL
      obtain ⟨rfl, hL⟩ := hL
      have h6 := Lib.hid hL
      clear hL h5
      go_wp2_with fail
      refine (read_l h6.out (by omega) e0N (by decide)).mono ?_
      intro e w7 hr1
      rw [HE.out.2.1] at hr1
      obtain ⟨v1, rfl, hv1, hb7⟩ := hr1
      obtain ⟨a1, k1, rfl, -⟩ := hv1.bvn (by simp) _ rfl
      have h7 := Lib.hid ((h6.out.below hb7).alloc (.cells #[.int .i64 t] 3))
      have hiv := Lib.hid (show IV (w7.alloc (.cells #[.int .i64 t] 3)) (some ⟨w7.heap.size, 0, none⟩) 1 [t] from SV.lit (k := 1) w7 (icells [t]) 1 3 rfl (by intro u hu; simp only [icells, List.map_cons, List.map_nil, List.mem_singleton] at hu; subst hu; rfl))
      have HB7 := Lib.hid h7.out.2
      clear hv1 hb7 h6
      go_wp2_with fail
      refine (crash_l h7.out (by omega) 9 _ 1 1 [t] hiv.out (by omega) (fun x hx => by simp only [List.mem_singleton] at hx; subst hx; exact ht)).mono ?_
      rintro e w8 ⟨x, rfl, hx, hp⟩
      have h8 := Lib.hid (And.intro hx hp)
      clear hx hp hiv h7
      have hw2 : IntKind.i64.wrap ((k : Int) + 2) = (k : Int) + 2 := by rw [IntKind.wrap_i64]; omega
      have hq3 : ((k : Int) + 2).tdiv 3 = (((k + 2) / 3 : Nat) : Int) := by rw [Int.tdiv_eq_ediv_of_nonneg (by omega)]; omega
      go_wp2_with fail
      refine (steps_l h8.out.2).mono ?_
      rintro e w9 ⟨rfl, rfl⟩
      rw [HE.out.2.2.1]
      go_wp2_with fail
      refine (names_l h8.out.1 (by omega)).mono ?_
      rintro e w10 ⟨v, rfl, ho, hb10⟩
      rw [HE.out.2.2.2.1] at ho
      obtain ⟨a3, k3, rfl, -⟩ := ho.shape
      have h10 := Lib.hid (And.intro (h8.out.1.below hb10) (h8.out.2.below hb10))
      clear ho hb10 h8
      go_wp2_with fail
      refine (used_l h10.out.1 (by omega)).mono ?_
      rintro e w11 ⟨rfl, hb11⟩
      have h11 := Lib.hid (And.intro (h10.out.1.below hb11) (h10.out.2.below hb11))
      clear hb11 h10
      go_wp2_with fail
      refine (used_l h11.out.2 (by omega)).mono ?_
      rintro e w12 ⟨rfl, hb12⟩
      have h12 := Lib.hid (And.intro (h11.out.1.below hb12) (h11.out.2.below hb12))
      have hle : ((usedD (crashD (enE k z1) 9 [t]) : Nat) : Int) ≤ ((usedD (enE k z1) : Nat) : Int) := by have := HE.out.2.2.2.2.1; omega
      clear hb12 h11
      go_wp2_with fail
      refine (syncDir_l h12.out.1 (by omega)).mono ?_
      rintro e w13 ⟨rfl, hL⟩
      rw [HE.out.2.2.2.2.2]
      have HBw := Lib.hid (H1.out.2.2.2.1.trans ((HB7.out.trans (hL.2.mono HB7.out.size)).mono H1.out.2.2.2.1.size))
      clear hL
      go_wp2_with fail
      go_ret
      exact ⟨rfl, HBw.out⟩
end Go.Proofs.Ytlagmjdldplblaa
/-
  DiskEnds: for every byte, every slice of bytes and every number the statement's function returns true, and its arguments read as they did. No condition.
-/
namespace Go.Proofs.Ytlagmjdldplblaa.diskEnds
open Go.ChangeShapes Go.WideShapes Go.ChangeAt Go.RowKit
set_option linter.unusedVariables false
set_option maxRecDepth 4000

set_option maxRecDepth 100000 in
theorem lifted (os : Os) (started : os.Started) (H : Type) (enc : TypeId × Value → H) :
    ReturnsInHanded {} Try.checked os 6 .any (Rows.diskEndsSpec.pre6 enc Try.prog Try.f6 Rows.diskEndsRow.domain false) (Rows.diskEndsSpec.post enc Try.prog Try.f6 false true false false) := by
  refine returnsInHanded_of_change (C := Try.checked) own started (by kernel_rfl) Try.func6
    (ChangeSpec.witness6 (enc := enc) (C := Try.checked) false ⟨#[], #[.int .u8 0, .slice none 0 0, .int .i64 0], []⟩ 8 (by kernel_rfl) (by kernel_rfl) (by kernel_rfl) (by kernel_rfl)) ?_
  intro W base args ds gs before hval0 hW hcnd _
  have hval : ∀ (j : Nat) t v, Try.f6.params[j]? = some t → args[j]? = some v → Value.okWide Try.prog W .any base t v := hval0
  have hW' := hW
  obtain ⟨p, q, hA0, hV, rfl, hfz, hnd⟩ := hW
  have hA : DataW.TrodAll enc Try.prog W 0 (fun _ => true) true Try.f6.params.toList args.toList ds p := hA0
  rw [Try.params6] at hA hval
  obtain ⟨v0, vs0, d0, ds0, p0, q0, hargs0, rfl, rfl, h0, r0⟩ := trodAll_cons hA
  obtain ⟨v1, vs1, d1, ds1, p1, q1, hargs1, hds1, hq1, h1, r1⟩ := trodAll_cons r0
  obtain ⟨v2, vs2, d2, ds2, p2, q2, hargs2, hds2, hq2, h2, r2⟩ := trodAll_cons r1
  obtain ⟨hn1, hn2, hn3⟩ := trodAll_nil r2
  subst hn2 hn3
  subst hds2 hq2
  subst hds1 hq1
  obtain rfl : args = #[v0, v1, v2] := by cases args; simp_all
  obtain ⟨rfl, rfl⟩ := trodVars_none hV
  have rd0 := h0
  have lt0 : ∀ x ∈ p0, x.block < W.heap.size := by obtain ⟨m, hm⟩ := rd0; exact DataW.trod_lt m _ _ _ hm
  obtain ⟨a0, rfl, B0⟩ := open_u8 (hval 0 5 v0 rfl rfl) h0
  have rd1 := h1
  have lt1 : ∀ x ∈ p1, x.block < W.heap.size := by obtain ⟨m, hm⟩ := rd1; exact DataW.trod_lt m _ _ _ hm
  obtain ⟨A1, n1, c1, z1, rfl, W1, L1⟩ := open_bytes (hval 1 28 v1 rfl rfl) h1
  have rd2 := h2
  have lt2 : ∀ x ∈ p2, x.block < W.heap.size := by obtain ⟨m, hm⟩ := rd2; exact DataW.trod_lt m _ _ _ hm
  obtain ⟨a2, rfl, B2⟩ := open_gint8 (hval 2 3 v2 rfl rfl) h2
  clear hA0 hval0
  refine (ends8_is A1 n1 c1 z1 a0 a2 W W1 L1 B0 B2).mono fun e W' ⟨he, bel⟩ => ?_
  subst he
  exact ⟨_, rfl, _, _, _, [], _, [], hW', trodAll_mk1 (shut_bool Try.underlying4 _), (trodAll_cons_mk (Below.trod laidOut (by kernel_rfl) (of_decide_eq_true (by kernel_rfl)) rd0 bel lt0) (trodAll_cons_mk (Below.trod laidOut (by kernel_rfl) (of_decide_eq_true (by kernel_rfl)) rd1 bel lt1) (trodAll_cons_mk (Below.trod laidOut (by kernel_rfl) (of_decide_eq_true (by kernel_rfl)) rd2 bel lt2) trodAll_mk0))), rfl, bel.frame _, fun h => by cases h⟩

theorem over : Rows.diskEndsRow.holds Try.pinned (OpenSpec.ofChange Rows.diskEndsSpec) :=
  OpenClaim.holds_of_wide 6 Try.f6 rfl rfl rfl rfl rfl rfl rfl ⟨rfl, rfl, rfl, rfl, rfl⟩ rfl rfl rfl rfl rfl (by kernel_rfl) Try.func6 (by kernel_rfl)
    (of_decide_eq_true (by kernel_rfl)) (by unfold Func.isWrapper; first | (rw [if_pos (by decide +kernel)]; kernel_rfl) | (rw [if_neg (by decide +kernel)]; exact ⟨rfl, rfl⟩))
    (fun os started H enc _ => lifted os started H enc)
end Go.Proofs.Ytlagmjdldplblaa.diskEnds
namespace Go.Proofs.Ytlagmjdldplblaa
theorem diskEnds_holds : Rows.DiskEndsSaid := diskEnds.over
end Go.Proofs.Ytlagmjdldplblaa
