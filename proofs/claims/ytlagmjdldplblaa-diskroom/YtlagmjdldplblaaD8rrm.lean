/-
  DiskRoom: for every byte and every slice of slices of bytes the statement's function returns true, and its arguments read as they did. No condition.
-/
import Derived.Test.YtlagmjdldplblaaBase
import Derived.Deep.Matrix
import Derived.Test.YtlagmjdldplblaaDiskA
import Derived.Test.YtlagmjdldplblaaDiskF
import Derived.Test.YtlagmjdldplblaaRows
import Derived.WalkKit
import Derived.ProofKit
import Derived.OpenShut
import Derived.ShutString
import Derived.ChangeOld
import Derived.Below
/- How the statements' arguments come in: rows of bytes. -/
namespace Go.Proofs.Ytlagmjdldplblaa
open Go.ChangeShapes Go.WideShapes Go.ChangeAt Go.RowKit
set_option linter.unusedVariables false
set_option maxRecDepth 4000

/-- the slice at a of n elements holds slices of the bytes zss -/
def BLs (w : World) (a : Option Addr) (n : Nat) (zss : List (List Int)) : Prop :=
  zss.length = n ∧ (n = 0 ∨ ∃ b off, a = some ⟨b, off, none⟩ ∧ ∀ i, i < n → ∃ x l c, w.cell? ⟨b, off + i, none⟩ = some (.slice x l c) ∧ l ≤ c ∧ c ≤ maxLen ∧ BV w x l (zss.getD i []))
theorem BLs.below {w w' : World} {a : Option Addr} {n : Nat} {zss : List (List Int)} (h : BLs w a n zss) (hb : Below w.heap.size w w') : BLs w' a n zss := by
  refine ⟨h.1, ?_⟩
  rcases h.2 with h | ⟨b, off, rfl, hc⟩
  · exact .inl h
  · refine .inr ⟨b, off, rfl, fun i hi => ?_⟩
    obtain ⟨x, l, c, h1, h2, h3, h4⟩ := hc i hi
    exact ⟨x, l, c, by rw [hb.cell (p := ⟨b, off + i, none⟩) (cell_lt h1)]; exact h1, h2, h3, h4.below hb⟩
theorem bls_of {w : World} {base : Nat} {x : Addr} {l c : Nat} {A : Nat → Option Addr} {L C : Nat → Nat} {Z : Nat → List Int} (hl : l ≤ c)
    (hr : ∀ r, r < c → w.cell? (x.add r) = some (.slice (A r) (L r) (C r)) ∧ L r ≤ C r ∧ C r ≤ maxLen ∧ (Z r).length = C r ∧ (∀ n ∈ Z r, (Lit.int .u8 n).wf = true) ∧ (A r = none → C r = 0) ∧
      ∀ a', A r = some a' → base ≤ a'.block ∧ ∀ k, k < C r → w.cell? (a'.add k) = some (.int .u8 ((Z r).getD k 0))) :
    BLs w (some x) l ((List.range l).map fun r => (Z r).take (L r)) := by
  refine ⟨by simp, ?_⟩
  by_cases h0 : l = 0
  · exact .inl h0
  · obtain ⟨b, off, spot⟩ := x
    have hc := (hr 0 (by omega)).1
    have hspot : spot = none := by simpa [Addr.add] using World.cell?_spot hc
    subst hspot
    refine .inr ⟨b, off, rfl, fun i hi => ?_⟩
    obtain ⟨h1, h2, h3, h4, h5, h6, h7⟩ := hr i (by omega)
    have ha : (⟨b, off, none⟩ : Addr).add i = ⟨b, off + i, none⟩ := by unfold Addr.add; split <;> simp_all
    rw [ha] at h1
    refine ⟨A i, L i, C i, h1, h2, h3, ?_⟩
    have e : ((List.range l).map fun r => (Z r).take (L r)).getD i [] = (Z i).take (L i) := by simp [hi]
    rw [e]
    cases hA : A i with
    | none =>
      have hC := h6 hA
      have hZ : Z i = [] := List.eq_nil_of_length_eq_zero (by omega)
      rw [hZ]
      exact ⟨by simp; omega, by simp, .inl (by omega)⟩
    | some a' =>
      have h8 := (h7 a' hA).2
      exact (bv_of (w := w) (a := some a') (len := L i) (cap := C i) (zs := Z i) (.inr ⟨a', rfl, h2, h3, h4, fun k hk => h8 k (by omega), h5⟩)).1
section
variable {H : Type} {enc : TypeId × Value → H} {w : World} {base : Nat} {held : Bool}
theorem open_bytess {r : Reach} {b0 : Nat} {v : Value} {d : DataW H} {p : List MemPlace} (hv : Value.okWide Try.prog w r b0 60 v) (h : DataW.Trod enc Try.prog w base (fun _ => true) held 60 v d p) :
    ∃ (A : Option Addr) (n c : Nat) (zss : List (List Int)), v = .slice A n c ∧ BLs w A n zss := by
  obtain ⟨a0, len0, cap0, rfl⟩ := okWide_slice Try.underlying60 hv
  obtain ⟨fuel, hf⟩ := h
  rcases Go.Deep.open_int_rows Try.underlying60 Try.underlying28 Try.underlying5 (by kernel_rfl) (by kernel_rfl) hf with ⟨hcs, _⟩ | ⟨x, l, c, A, L, C, Z, hcs, _, hl, hm, _, hr⟩
  · simp [Value.cells] at hcs
    obtain ⟨rfl, rfl, rfl⟩ := hcs
    exact ⟨none, 0, 0, [], rfl, rfl, .inl rfl⟩
  · simp [Value.cells] at hcs
    obtain ⟨rfl, rfl, rfl⟩ := hcs
    exact ⟨some x, len0, cap0, _, rfl, bls_of hl hr⟩
end
end Go.Proofs.Ytlagmjdldplblaa
/- The statement DiskRoom: plain part. -/
namespace Go.Proofs.Ytlagmjdldplblaa
set_option linter.unusedVariables false
set_option maxRecDepth 4000

abbrev rA : ByteArray := { data := #[97] }
abbrev rB : ByteArray := { data := #[98] }
/-- the disk of DiskRoom: behind t steps, with the bytes own in its first file -/
def roomD (Q t : Nat) (own : List Int) : DK := ⟨(Q : Int), t, [(own, 0), ([], 0)], [(rA, 0), (rB, 1)], [], [⟨none, some (rA, 0)⟩, ⟨none, some (rB, 1)⟩], [], none, false⟩
/-- when the first file is away -/
def roomE (Q t : Nat) (own x : List Int) : DK := ⟨(Q : Int), t, [(own, 0), (x, 0)], [(rB, 1)], [], [⟨none, some (rA, 0)⟩, ⟨none, some (rB, 1)⟩, ⟨some rA, none⟩], [], none, false⟩
theorem room_new (Q : Nat) : newD (Q : Int) = ⟨(Q : Int), 0, [], [], [], [], [], none, false⟩ := by
  unfold newD; rw [show max (Q : Int) 0 = (Q : Int) by omega]
theorem room_made1 (Q : Nat) : createD (newD (Q : Int)) rA = (⟨(Q : Int), 1, [([], 0)], [(rA, 0)], [], [⟨none, some (rA, 0)⟩], [], none, false⟩, 0) := by rw [room_new]; rfl
theorem room_made2 (Q : Nat) : createD ⟨(Q : Int), 1, [([], 0)], [(rA, 0)], [], [⟨none, some (rA, 0)⟩], [], none, false⟩ rB = (roomD Q 2 [], 0) := rfl
theorem room_free (Q t : Nat) (own : List Int) : Free8 (roomD Q t own) := ⟨rfl, rfl, rfl⟩
theorem room_freeE (Q t : Nat) (own x : List Int) : Free8 (roomE Q t own x) := ⟨rfl, rfl, rfl⟩
theorem room_put {Q t : Nat} {own b : List Int} (h : own.length + b.length ≤ Q) : appendD (roomD Q t own) rA b = (roomD Q (t + 1) (own ++ b), 0) := by
  rw [append_eq (room_free Q t own) (f := 0) rfl (by show ((own.length + 0 + b.length : Nat) : Int) ≤ (Q : Int); omega)]; rfl
theorem room_full {Q t : Nat} {own b : List Int} (h : ¬ own.length + b.length ≤ Q) : appendD (roomD Q t own) rA b = (roomD Q (t + 1) own, 32) := by
  rw [append_full (room_free Q t own) (f := 0) rfl (by show ¬ ((own.length + 0 + b.length : Nat) : Int) ≤ (Q : Int); omega)]; rfl
theorem room_read (Q t : Nat) (own : List Int) : readD (roomD Q t own) rA = (own, 0) := rfl
theorem room_used (Q t : Nat) (own : List Int) : usedD (roomD Q t own) = own.length := by show own.length + 0 = _; omega
theorem room_gone (Q t : Nat) (own : List Int) : removeD (roomD Q t own) rA = (roomE Q (t + 1) own [], 0) := rfl
theorem room_putB {Q t : Nat} (own : List Int) {b : List Int} (h : b.length = Q) : appendD (roomE Q t own []) rB b = (roomE Q (t + 1) own b, 0) := by
  rw [append_eq (room_freeE Q t own []) (f := 1) rfl (by show ((0 + b.length : Nat) : Int) ≤ (Q : Int); omega)]; rfl
theorem room_fullB {Q t : Nat} (own : List Int) {b : List Int} (h : b.length = Q) : appendD (roomE Q t own b) rB [1] = (roomE Q (t + 1) own b, 32) := by
  rw [append_full (room_freeE Q t own b) (f := 1) rfl (by show ¬ ((b.length + 0 + 1 : Nat) : Int) ≤ (Q : Int); omega)]; rfl
theorem room_usedB {Q t : Nat} (own : List Int) {b : List Int} (h : b.length = Q) : usedD (roomE Q t own b) = Q := by show b.length + 0 = _; omega
end Go.Proofs.Ytlagmjdldplblaa
/- The statement DiskRoom. -/
namespace Go.Proofs.Ytlagmjdldplblaa
open Go.ChangeShapes Go.WideShapes Go.ChangeAt Go.RowKit Go.WideMaps Go.Maps
set_option linter.unusedVariables false
set_option maxRecDepth 4000

theorem made_u8 (n : Nat) : madeCells #[Value.int .u8 0] n = ((List.replicate n (0 : Int)).map (Value.int .u8)).toArray := by
  apply Array.ext
  · simp [madeCells]
  · intro i h1 h2
    simp [madeCells, Nat.mod_one]
theorem make8_bytes (N : Nat) (h : N ≤ 2000) (w : World) : (Instr.makeSlice 28 (.int .i64 (N : Int)) (.int .i64 (N : Int))).run Try.prog w = .ok (.slice (some ⟨w.heap.size, 0, none⟩) N N) (w.alloc (.cells ((List.replicate N (0 : Int)).map (Value.int .u8)).toArray 5)) := by
  have := run_make_row' (P := Try.prog) 28 5 (.int .u8 0) 1 Try.underlying28 (by kernel_rfl) rfl .i64 .i64 N (by omega) (by omega) w
  rw [made_u8] at this
  exact this
set_option maxHeartbeats 4000000 in
theorem room8_is (A : Option Addr) (n c : Nat) (zss : List (List Int)) (a : Int) (w : World) (hA : BLs w A n zss) (ha : 0 ≤ a ∧ a ≤ 255) :
    Calls Try.prog 7 #[.int .u8 a, .slice A n c] w fun e w' => e = .returned (.bool true) ∧ Below w.heap.size w w' := by
  have hs := Lib.hid (shown8_is w)
  obtain ⟨Q, rfl⟩ : ∃ Q : Nat, a = (Q : Int) := ⟨a.toNat, by omega⟩
  have hQ : Q ≤ 255 := by omega
  have HI := Lib.hid hA
  clear hA
  go_enter Try.func7, Try.ntmps7
  go_wp2_with fail
  refine hs.out.mono ?_
  rintro e w1 ⟨rfl, hb1⟩
  have H1 := Lib.hid (And.intro (HI.out.below hb1) hb1)
  clear hb1 HI hs
  go_wp2_with fail
  refine (new_l w1 (Q : Int) (by unfold maxI; omega)).mono ?_
  rintro e w2 ⟨p, rfl, hL⟩
  have h2 := Lib.hid hL
  clear hL
  go_wp2_with fail
  refine (create_l h2.out (by omega) rA (by decide)).mono ?_
  intro e w3 hL
  rw [room_made1] at hL
  obtain ⟨rfl, hL⟩ := hL
  have h3 := Lib.hid hL
  clear hL
  go_wp2_with fail
  refine (create_l h3.out (by omega) rB (by decide)).mono ?_
  intro e w4 hL
  rw [room_made2] at hL
  obtain ⟨rfl, hL⟩ := hL
  have h4 := Lib.hid hL
  clear hL
  clear h2 h3
  go_wp2_with fail
  go_loopw [7, 8, 9] (fun u v i wr => ∃ (j : Nat) (own : List Int), j ≤ n ∧ j ≤ 10 ∧ i = .int .i64 (j : Int) ∧ u = .int .i64 (own.length : Int) ∧ v = .string (strOfNums own) ∧ own.length ≤ Q ∧ Hid (∀ z ∈ own, 0 ≤ z ∧ z ≤ 255) ∧ LD w1 wr p (3 * j + 6) (roomD Q (j + 2) own)) (fun _ _ i _ => 10 - (intOf i).toNat)
  case atStart => exact ⟨0, [], by omega, by omega, rfl, rfl, rfl, by simp, Lib.hid (by simp), h4.out.more (by omega)⟩
  case round =>
    obtain ⟨j, own, hjn, hj10, rfl, rfl, rfl, how, hob, hlr⟩ := hrel
    have hr := Lib.hid hlr
    clear hlr h4
    have hA1 : IntKind.i64.wrap ((j : Int) + 1) = ((j + 1 : Nat) : Int) := by rw [IntKind.wrap_i64]; omega
    by_cases hlt : j < n ∧ j < 10
    · obtain ⟨hlt1, hlt2⟩ := hlt
      rcases H1.out.1.2 with hn | ⟨b, off, rfl, hcell⟩
      · omega
      obtain ⟨x, l, cx, hc1, hlc, hcm, hx⟩ := hcell j hlt1
      obtain ⟨m, z, hz, hzl, hmc, hm100, hzv, hlo, hfw⟩ := few_l (hx) hlc
      have hc2 := keepc hc1 hr.out.2
      have HZ := Lib.hid (And.intro hzv (And.intro hlo (And.intro hfw hzl)))
      clear hcell hc1 hx hzv hlo hfw hz
      have hji : (j : Int) < (n : Int) := by omega
      have hj10i : (j : Int) < 10 := by omega
      have hsm : IntKind.i64.wrap ((own.length : Int) + (m : Int)) = ((own.length + m : Nat) : Int) := by rw [IntKind.wrap_i64]; omega
      have hcvz := fun wq (hq : Below w1.heap.size w1 wq) => conv_any (HZ.out.1.below hq) cx
      by_cases hfit : own.length + m ≤ Q
      · have hfi : ((own.length + m : Nat) : Int) ≤ (Q : Int) := by omega
        have hrp := room_put (Q := Q) (t := j + 2) (own := own) (b := z) (by rw [HZ.out.2.2.2]; exact hfit)
        have hoz : Hid (∀ y ∈ own ++ z, 0 ≤ y ∧ y ≤ 255) := Lib.hid (fun y hy => (List.mem_append.1 hy).elim (hob.out y) (HZ.out.1.2.1 y))
        have hlz : (own ++ z).length = own.length + m := by rw [List.length_append, HZ.out.2.2.2]
        have hsz : ¬ 9223372036854775807 < (strOfNums own).size + (strOfNums z).size := by rw [strOfNums_size, strOfNums_size, HZ.out.2.2.2]; omega
        have hcat : strOfNums own ++ strOfNums z = strOfNums (own ++ z) := str_add own z
        have HRP := Lib.hid hrp
        clear hrp hob
        go_wp2_with fail
        refine (HZ.out.2.2.1 wr hr.out.2).mono ?_
        rintro e w5 ⟨rfl, e5⟩
        subst e5
        go_wp2_with fail
        refine (append_l hr.out (by omega) rA (by decide) x m cx z (HZ.out.1.below hr.out.2) hmc (by omega) HZ.out.2.1).mono ?_
        intro e w6 hL
        rw [HRP.out] at hL
        obtain ⟨rfl, hL⟩ := hL
        have h6 := Lib.hid (hL : LD w1 w6 p _ (roomD Q (j + 3) (own ++ z)))
        have hcv6 := hcvz w6 h6.out.2
        clear hL hr HRP hcvz
        go_wp2_with fail
        generalize own ++ z = ow2 at *
        refine (read_l h6.out (by omega) rA (by decide)).mono ?_
        intro e w7 hr1
        rw [room_read] at hr1
        obtain ⟨v1, rfl, hv1, hb7⟩ := hr1
        obtain ⟨a1, k1, rfl, -, -, hbv1, -⟩ := hv1.bvn hoz.out _ hlz
        have h7 := Lib.hid (h6.out.below hb7)
        have hb1 := Lib.hid hbv1
        clear hv1 hbv1 hb7
        go_wp2_with fail
        refine (used_l h7.out (by omega)).mono ?_
        rintro e w8 ⟨rfl, hb8⟩
        rw [room_used, hlz]
        have h8 := Lib.hid (h7.out.below hb8)
        have hcv8 := conv_any (hb1.out.below hb8) k1
        clear hb8
        go_wp2_with fail
        go_roundw
        case rel => exact ⟨j + 1, ow2, by omega, by omega, by rfl, by rw [hlz]; rfl, rfl, by omega, hoz, h8.out.more (by omega)⟩
        case measure => simp only [intOf]; omega
      · have hfi : ¬ ((own.length + m : Nat) : Int) ≤ (Q : Int) := by omega
        have hrp := room_full (Q := Q) (t := j + 2) (own := own) (b := z) (by rw [HZ.out.2.2.2]; exact hfit)
        have HRP := Lib.hid hrp
        clear hrp hcvz
        go_wp2_with fail
        refine (HZ.out.2.2.1 wr hr.out.2).mono ?_
        rintro e w5 ⟨rfl, e5⟩
        subst e5
        go_wp2_with fail
        refine (append_l hr.out (by omega) rA (by decide) x m cx z (HZ.out.1.below hr.out.2) hmc (by omega) HZ.out.2.1).mono ?_
        intro e w6 hL
        rw [HRP.out] at hL
        obtain ⟨rfl, hL⟩ := hL
        have h6 := Lib.hid (hL : LD w1 w6 p _ (roomD Q (j + 3) own))
        clear hL hr HRP
        go_wp2_with fail
        refine (read_l h6.out (by omega) rA (by decide)).mono ?_
        intro e w7 hr1
        rw [room_read] at hr1
        obtain ⟨v1, rfl, hv1, hb7⟩ := hr1
        obtain ⟨a1, k1, rfl, -, -, hbv1, -⟩ := hv1.bvn hob.out _ rfl
        have h7 := Lib.hid (h6.out.below hb7)
        have hb1 := Lib.hid hbv1
        clear hv1 hbv1 hb7
        go_wp2_with fail
        refine (used_l h7.out (by omega)).mono ?_
        rintro e w8 ⟨rfl, hb8⟩
        rw [room_used]
        have h8 := Lib.hid (h7.out.below hb8)
        have hcv8 := conv_any (hb1.out.below hb8) k1
        clear hb8
        go_wp2_with fail
        go_roundw
        case rel => exact ⟨j + 1, own, by omega, by omega, by rfl, rfl, rfl, how, hob, h8.out.more (by omega)⟩
        case measure => simp only [intOf]; omega
    · rcases (show (j < n ∧ ¬ j < 10) ∨ ¬ j < n from by omega) with ⟨hk1, hk2⟩ | hk1
      · have hji : (j : Int) < (n : Int) := by omega
        have hj10i : ¬ (j : Int) < 10 := by omega
        go_wp2_with fail
        refine (remove_l hr.out (by omega) rA (by decide)).mono ?_
        intro e w6 hL
        rw [(room_gone Q (j + 2) own)] at hL
        obtain ⟨rfl, hL⟩ := hL
        have h6 := Lib.hid hL
        clear hL
        have hmk := make8_bytes Q (by omega)
        obtain ⟨zs, hzs⟩ : ∃ zs, List.replicate Q (0 : Int) = zs := ⟨_, rfl⟩
        have hzl : zs.length = Q := by rw [← hzs]; simp
        have hbz : BV (w6.alloc (.cells (zs.map (Value.int .u8)).toArray 5)) (some ⟨w6.heap.size, 0, none⟩) Q zs := bvC w6 zs Q _ 5 _ rfl hzl (by rw [← hzs]; intro z hz; have := (List.mem_replicate.1 hz).2; omega)
        rw [hzs] at hmk
        have HBZ := Lib.hid (And.intro hbz hzl)
        clear hbz hzl hzs
        go_wp2_with fail
        refine (append_n h6.out (by omega) ((Below.refl _ _).alloc (Nat.le_refl _) _) rB (by decide) (some ⟨w6.heap.size, 0, none⟩) Q Q zs HBZ.out.1 (Nat.le_refl _) (by omega) (fun x hx => by cases hx; exact ⟨Nat.le_refl _, by simp⟩)).mono ?_
        intro e w7 hL
        rw [room_putB own HBZ.out.2] at hL
        obtain ⟨rfl, hL⟩ := hL
        have h7 := Lib.hid hL
        clear hL hmk
        have hb1 := Lib.hid (bvC w7 [1] 1 #[.int .u8 1] 5 (0, 0) rfl rfl (by intro z hz; simp only [List.mem_singleton] at hz; subst hz; omega))
        go_wp2_with fail
        refine (append_n h7.out (by omega) ((Below.refl _ _).alloc (Nat.le_refl _) _) rB (by decide) (some ⟨w7.heap.size, 0, none⟩) 1 1 [1] hb1.out (Nat.le_refl _) (by omega) (fun x hx => by cases hx; exact ⟨Nat.le_refl _, by simp⟩)).mono ?_
        intro e w8 hL
        rw [room_fullB own HBZ.out.2] at hL
        obtain ⟨rfl, hL⟩ := hL
        have h8 := Lib.hid hL
        clear hL hb1
        go_wp2_with fail
        refine (used_l h8.out (by omega)).mono ?_
        rintro e w9 ⟨rfl, hb9⟩
        rw [room_usedB own HBZ.out.2]
        have HBw := Lib.hid (H1.out.2.trans ((h8.out.below hb9).2.mono H1.out.2.size))
        clear hb9
        go_wp2_with fail
        go_ret
        exact ⟨rfl, HBw.out⟩
      · have hji : ¬ (j : Int) < (n : Int) := by omega
        go_wp2_with fail
        refine (remove_l hr.out (by omega) rA (by decide)).mono ?_
        intro e w6 hL
        rw [(room_gone Q (j + 2) own)] at hL
        obtain ⟨rfl, hL⟩ := hL
        have h6 := Lib.hid hL
        clear hL
        have hmk := make8_bytes Q (by omega)
        obtain ⟨zs, hzs⟩ : ∃ zs, List.replicate Q (0 : Int) = zs := ⟨_, rfl⟩
        have hzl : zs.length = Q := by rw [← hzs]; simp
        have hbz : BV (w6.alloc (.cells (zs.map (Value.int .u8)).toArray 5)) (some ⟨w6.heap.size, 0, none⟩) Q zs := bvC w6 zs Q _ 5 _ rfl hzl (by rw [← hzs]; intro z hz; have := (List.mem_replicate.1 hz).2; omega)
        rw [hzs] at hmk
        have HBZ := Lib.hid (And.intro hbz hzl)
        clear hbz hzl hzs
        go_wp2_with fail
        refine (append_n h6.out (by omega) ((Below.refl _ _).alloc (Nat.le_refl _) _) rB (by decide) (some ⟨w6.heap.size, 0, none⟩) Q Q zs HBZ.out.1 (Nat.le_refl _) (by omega) (fun x hx => by cases hx; exact ⟨Nat.le_refl _, by simp⟩)).mono ?_
        intro e w7 hL
        rw [room_putB own HBZ.out.2] at hL
        obtain ⟨rfl, hL⟩ := hL
        have h7 := Lib.hid hL
        clear hL hmk
        have hb1 := Lib.hid (bvC w7 [1] 1 #[.int .u8 1] 5 (0, 0) rfl rfl (by intro z hz; simp only [List.mem_singleton] at hz; subst hz; omega))
        go_wp2_with fail
        refine (append_n h7.out (by omega) ((Below.refl _ _).alloc (Nat.le_refl _) _) rB (by decide) (some ⟨w7.heap.size, 0, none⟩) 1 1 [1] hb1.out (Nat.le_refl _) (by omega) (fun x hx => by cases hx; exact ⟨Nat.le_refl _, by simp⟩)).mono ?_
        intro e w8 hL
        rw [room_fullB own HBZ.out.2] at hL
        obtain ⟨rfl, hL⟩ := hL
        have h8 := Lib.hid hL
        clear hL hb1
        go_wp2_with fail
        refine (used_l h8.out (by omega)).mono ?_
        rintro e w9 ⟨rfl, hb9⟩
        rw [room_usedB own HBZ.out.2]
        have HBw := Lib.hid (H1.out.2.trans ((h8.out.below hb9).2.mono H1.out.2.size))
        clear hb9
        go_wp2_with fail
        go_ret
        exact ⟨rfl, HBw.out⟩
end Go.Proofs.Ytlagmjdldplblaa
/-
  DiskRoom: for every byte and every slice of slices of bytes the statement's function returns true, and its arguments read as they did. No condition.
-/
namespace Go.Proofs.Ytlagmjdldplblaa.diskRoom
open Go.ChangeShapes Go.WideShapes Go.ChangeAt Go.RowKit
set_option linter.unusedVariables false
set_option maxRecDepth 4000

set_option maxRecDepth 100000 in
theorem lifted (os : Os) (started : os.Started) (H : Type) (enc : TypeId × Value → H) :
    ReturnsInHanded {} Try.checked os 7 .any (Rows.diskRoomSpec.pre6 enc Try.prog Try.f7 Rows.diskRoomRow.domain false) (Rows.diskRoomSpec.post enc Try.prog Try.f7 false true false false) := by
  refine returnsInHanded_of_change (C := Try.checked) own started (by kernel_rfl) Try.func7
    (ChangeSpec.witness6 (enc := enc) (C := Try.checked) false ⟨#[], #[.int .u8 0, .slice none 0 0], []⟩ 8 (by kernel_rfl) (by kernel_rfl) (by kernel_rfl) (by kernel_rfl)) ?_
  intro W base args ds gs before hval0 hW hcnd _
  have hval : ∀ (j : Nat) t v, Try.f7.params[j]? = some t → args[j]? = some v → Value.okWide Try.prog W .any base t v := hval0
  have hW' := hW
  obtain ⟨p, q, hA0, hV, rfl, hfz, hnd⟩ := hW
  have hA : DataW.TrodAll enc Try.prog W 0 (fun _ => true) true Try.f7.params.toList args.toList ds p := hA0
  rw [Try.params7] at hA hval
  obtain ⟨v0, vs0, d0, ds0, p0, q0, hargs0, rfl, rfl, h0, r0⟩ := trodAll_cons hA
  obtain ⟨v1, vs1, d1, ds1, p1, q1, hargs1, hds1, hq1, h1, r1⟩ := trodAll_cons r0
  obtain ⟨hn1, hn2, hn3⟩ := trodAll_nil r1
  subst hn2 hn3
  subst hds1 hq1
  obtain rfl : args = #[v0, v1] := by cases args; simp_all
  obtain ⟨rfl, rfl⟩ := trodVars_none hV
  have rd0 := h0
  have lt0 : ∀ x ∈ p0, x.block < W.heap.size := by obtain ⟨m, hm⟩ := rd0; exact DataW.trod_lt m _ _ _ hm
  obtain ⟨a0, rfl, B0⟩ := open_u8 (hval 0 5 v0 rfl rfl) h0
  have rd1 := h1
  have lt1 : ∀ x ∈ p1, x.block < W.heap.size := by obtain ⟨m, hm⟩ := rd1; exact DataW.trod_lt m _ _ _ hm
  obtain ⟨A1, n1, c1, z1, rfl, W1⟩ := open_bytess (hval 1 60 v1 rfl rfl) h1
  clear hA0 hval0
  refine (room8_is A1 n1 c1 z1 a0 W W1 B0).mono fun e W' ⟨he, bel⟩ => ?_
  subst he
  exact ⟨_, rfl, _, _, _, [], _, [], hW', trodAll_mk1 (shut_bool Try.underlying4 _), (trodAll_cons_mk (Below.trod laidOut (by kernel_rfl) (of_decide_eq_true (by kernel_rfl)) rd0 bel lt0) (trodAll_cons_mk (Below.trod laidOut (by kernel_rfl) (of_decide_eq_true (by kernel_rfl)) rd1 bel lt1) trodAll_mk0)), rfl, bel.frame _, fun h => by cases h⟩

theorem over : Rows.diskRoomRow.holds Try.pinned (OpenSpec.ofChange Rows.diskRoomSpec) :=
  OpenClaim.holds_of_wide 7 Try.f7 rfl rfl rfl rfl rfl rfl rfl ⟨rfl, rfl, rfl, rfl, rfl⟩ rfl rfl rfl rfl rfl (by kernel_rfl) Try.func7 (by kernel_rfl)
    (of_decide_eq_true (by kernel_rfl)) (by unfold Func.isWrapper; first | (rw [if_pos (by decide +kernel)]; kernel_rfl) | (rw [if_neg (by decide +kernel)]; exact ⟨rfl, rfl⟩))
    (fun os started H enc _ => lifted os started H enc)
end Go.Proofs.Ytlagmjdldplblaa.diskRoom
namespace Go.Proofs.Ytlagmjdldplblaa
theorem diskRoom_holds : Rows.DiskRoomSaid := diskRoom.over
end Go.Proofs.Ytlagmjdldplblaa
