/-
  GrainOdd: for every two lists of values the statement's function returns true, and its arguments read as they did. No condition.
-/
import Derived.Test.YtiigcjncpjdkcaaGrnC
import Derived.Test.YtiigcjncpjdkcaaGrnF
import Derived.Test.YtiigcjncpjdkcaaRows
import Derived.WalkKit
import Derived.ProofKit
import Derived.OpenShut
import Derived.ShutString
import Derived.ChangeOld
import Derived.Below
/- GrainOdd: the walk. -/
namespace Go.Proofs.Ytiigcjncpjdkcaa
open Go.ChangeShapes Go.WideShapes Go.ChangeAt Go.RowKit
set_option linter.unusedVariables false
set_option maxRecDepth 4000

theorem slA_vals : Sl 37 2 := ⟨by kernel_rfl, fun w => by kernel_rfl⟩
/-- a row cut to its first values -/
theorem RowAt.cut {w : World} {A : Option Addr} {n c : Nat} {l : RowV} (h : RowAt w (.slice A n c) l) (k : Nat) (hk : k ≤ n) :
    ∃ a', (∀ wx, (Instr.slice 37 (.slice A n c) none (some (.int .i64 (k : Int))) none).run Try.prog wx = .ok (.slice a' k c) wx) ∧ RowAt w (.slice a' k c) (l.take k) := by
  obtain ⟨A', n', c', e, h1, h2, h3, h4, h5⟩ := h
  cases e
  obtain ⟨a', hs, hv⟩ := SV.slice_hi slA_vals h4 k c hk h1
  refine ⟨a', hs, a', k, c, rfl, by omega, h2, by rw [List.length_take]; omega, by rw [vcells_take]; exact hv, fun ha => ?_⟩
  subst ha
  have hsw := hs w
  rw [run_slice_h w 37 A n c slA_vals.under .i64 (k : Int) (by omega) (by omega), slA_vals.size] at hsw
  simp only [Result.andThen, sliced, Nat.zero_mul, Nat.sub_zero, Int.toNat_natCast] at hsw
  have e : (A.map fun x => x.add 0) = A := by cases A <;> simp [addr_zero]
  rw [e] at hsw
  refine h5 ?_
  split at hsw <;> (injection hsw with e1; injection e1)
theorem RowAt.wv {w : World} {A : Option Addr} {n c : Nat} {l : RowV} (h : RowAt w (.slice A n c) l) : WV w A n l ∧ n ≤ c := by
  obtain ⟨A', n', c', e, h1, h2, h3, h4, h5⟩ := h
  cases e
  exact ⟨h4, h1⟩
theorem rows_two {l l' : RowV} (h : l'.length = l.length) : colL (rowsC [l, l'] l.length) 0 = l ∧ colL (rowsC [l, l'] l.length) 1 = l' := by
  have e0 : ∀ k : Nat, k < 2 → colL (rowsC [l, l'] l.length) (k : Int) = (rowsC [l, l'] l.length).map fun r => r.getD k v0 := fun k hk => by
    rw [colL_yes (fun r hr => by
      obtain ⟨i, _, rfl⟩ := List.mem_map.1 hr
      simp; omega)]
    rfl
  constructor
  · have := e0 0 (by omega)
    rw [show ((0 : Nat) : Int) = 0 from rfl] at this
    rw [this]
    refine List.ext_getElem (by simp [rowsC]) (fun i h1 h2 => ?_)
    simp [rowsC, List.getD, h2]
  · have := e0 1 (by omega)
    rw [show ((1 : Nat) : Int) = 1 from rfl] at this
    rw [this]
    refine List.ext_getElem (by simp [rowsC, h]) (fun i h1 h2 => ?_)
    simp [rowsC, List.getD, h2]
theorem okC_two {l l' : RowV} : OkC [l, l'] ↔ l'.length = l.length := by
  refine ⟨fun h => h.2 1 (by simp), fun h => ⟨by simp, fun x hx => ?_⟩⟩
  match x, hx with
  | 0, _ => rfl
  | 1, _ => exact h
theorem okC_none : ¬ OkC [] := fun h => h.1 rfl
theorem rvs_two {w : World} {v v' : Value} {l l' : RowV} (h : RowAt w v l) (h' : RowAt w v' l') (T : TypeId) : RVs (w.alloc (.cells #[v, v'] T)) (some ⟨w.heap.size, 0, none⟩) 2 [l, l'] := by
  refine ⟨rfl, .inr ⟨_, 0, rfl, fun i hi => ?_⟩⟩
  match i, hi with
  | 0, _ => exact ⟨v, by rw [Nat.zero_add, World.cell?_alloc_new]; rfl, h.below (Joins.below_alloc1 _ _)⟩
  | 1, _ => exact ⟨v', by rw [Nat.zero_add, World.cell?_alloc_new]; rfl, h'.below (Joins.below_alloc1 _ _)⟩
theorem rvs_one {w : World} {v : Value} {l : RowV} (h : RowAt w v l) (T : TypeId) : RVs (w.alloc (.cells #[v] T)) (some ⟨w.heap.size, 0, none⟩) 1 [l] := by
  refine ⟨rfl, .inr ⟨_, 0, rfl, fun i hi => ?_⟩⟩
  match i, hi with
  | 0, _ => exact ⟨v, by rw [Nat.zero_add, World.cell?_alloc_new]; rfl, h.below (Joins.below_alloc1 _ _)⟩
theorem rvs_none (w : World) : RVs w none 0 [] := ⟨rfl, .inl rfl⟩
theorem rowAt_nil (w : World) (g : Nat) : RowAt w (.slice (some ⟨g, 0, none⟩) 0 0) [] := ⟨_, 0, 0, rfl, Nat.le_refl _, Nat.zero_le _, rfl, ⟨rfl, (fun u hu => by cases hu), .inl rfl⟩, fun h => by cases h⟩
theorem colL_zero : colL [[]] 0 = [] := by simp [colL]
theorem colL_below (r : RowV) : colL [r] (-1) = [] := by simp [colL]
set_option maxHeartbeats 16000000 in
theorem oddA_is (A : Option Addr) (n c : Nat) (l : RowV) (A' : Option Addr) (n' c' : Nat) (l' : RowV) (w : World) (hr : RowAt w (.slice A n c) l) (hr' : RowAt w (.slice A' n' c') l') :
    Calls Try.prog 5 #[.slice A n c, .slice A' n' c'] w fun e w' => e = .returned (.bool true) ∧ Below w.heap.size w w' := by
  go_enter Try.func5, Try.ntmps5
  go_wp2_with fail
  refine (shownA_is _).mono ?_
  rintro e w1 ⟨rfl, hb1⟩
  have hr := hr.below hb1
  have hr' := hr'.below hb1
  by_cases h1 : n ≤ 60
  · have h1z : ¬ (n : Int) > 60 := by omega
    by_cases h2 : n' ≤ 60
    · have h2z : ¬ (n' : Int) > 60 := by omega
      go_wp2_with fail
      have hba := Joins.below_alloc1 w1 (.cells #[.slice A n c, .slice A' n' c'] 37)
      have hla := (hr).wv
      have hlb := (hr').wv
      have hl1 := WV.len hla.1
      have hl2 := WV.len hlb.1
      refine (grows_any (some ⟨w1.heap.size, 0, none⟩) 2 2 [l, l'] _ (rvs_two hr hr' 37) (by omega) (by show List.length l ≤ _; omega)).mono ?_
      rintro e w2 ⟨he, hb2⟩
      have hra := ((hr).below hba).below hb2
      have hrb := ((hr').below hba).below hb2
      have hw2 := Below.then (Below.then hb1 hba) hb2
      clear hb2 hba hla hlb hr hr' hb1
      rcases he with ⟨hok, A3, C3, rfl, h31, h32, h33, rv3⟩ | ⟨hok, rfl⟩
      · have hnn : n' = n := by rw [← hl1, ← hl2]; exact okC_two.1 hok
        rw [show List.length ([l, l'].getD 0 []) = n from hl1] at h31 rv3 ⊢
        have hnb : ((n : Nat) : Int) = ((n' : Nat) : Int) := by omega
        replace hnn := Lib.hid hnn
        replace hl1 := Lib.hid hl1
        replace hl2 := Lib.hid hl2
        go_wp2_with fail
        refine (grows_any none 0 0 [] _ (rvs_none _) (by omega) (by simp)).mono ?_
        rintro e w3 ⟨he, hb3⟩
        rcases he with ⟨hbad, -⟩ | ⟨-, rfl⟩
        · exact absurd hbad okC_none
        have hra := hra.below hb3
        have hrb := hrb.below hb3
        have hw3 := Below.then hw2 hb3
        have rv4 := rv3.below hb3
        go_wp2_with fail
        have hr1 := rvs_one (w := w3.alloc (.cells #[] 48)) (rowAt_nil _ w3.heap.size) 43
        rw [heap_alloc] at hr1
        have hb4 := Joins.below_alloc2 w3 (.cells #[] 48) (.cells #[.slice (some ⟨w3.heap.size, 0, none⟩) 0 0] 43)
        refine (gcolumn_any _ 1 1 [[]] 0 _ hr1 (by omega)).mono ?_
        rw [colL_zero]
        rintro e w5 ⟨v5, rfl, o5, hb5⟩
        obtain ⟨a5, c5, rfl⟩ := OS.shape (n := 0) o5
        have hra := (hra.below hb4).below hb5
        have hrb := (hrb.below hb4).below hb5
        have hw5 := Below.then (Below.then hw3 hb4) hb5
        clear hr1 o5 hw3
        go_wp2_with fail
        have hr2 := rvs_one (w := w5.alloc (.cells #[.int .i64 0, .string ⟨#[]⟩] 48)) (RowAt.of (SV.lit (k := 2) w5 (vcells nA) 1 48 rfl (vcells_one _)) (Nat.le_refl _) (Nat.le_refl _) (show (1 : Nat) ≤ maxLen by unfold maxLen; decide)) 43
        rw [heap_alloc] at hr2
        have hb6 := Joins.below_alloc2 w5 (.cells #[.int .i64 0, .string ⟨#[]⟩] 48) (.cells #[.slice (some ⟨w5.heap.size, 0, none⟩) 1 1] 43)
        refine (gcolumn_any _ 1 1 [nA] (-1) _ hr2 (by omega)).mono ?_
        rw [colL_below]
        rintro e w7 ⟨v7, rfl, o7, hb7⟩
        obtain ⟨a7, c7, rfl⟩ := OS.shape (n := 0) o7
        have hra := (hra.below hb6).below hb7
        have hrb := (hrb.below hb6).below hb7
        have hw7 := Below.then (Below.then hw5 hb6) hb7
        have rv7 := (((rv4.below hb4).below hb5).below hb6).below hb7
        clear hr2 hb6 hb7 o7 hw5 rv3 rv4
        have hc2 := rows_two (l := l) (l' := l') (by rw [hl1.out, hl2.out, hnn.out])
        rw [hl1.out] at hc2
        go_wp2_with fail
        refine (gcolumn_any _ _ _ _ 0 _ rv7 (by omega)).mono ?_
        rw [hc2.1]
        rintro e w8 ⟨v8, rfl, o8, hb8⟩
        obtain ⟨a8, c8, rfl, -, -, cv8, -⟩ := o8.sv
        have hra8 := (hra.below hb8).wv
        have hw8 := Below.then hw7 hb8
        have hrb8 := hrb.below hb8
        have rv8 := rv7.below hb8
        clear hra hrb hw7 hb8 o8 rv7
        go_wp2_with fail
        refine (same7_any _ _ _ l _ _ _ l _ cv8 hra8.1 (by rw [hl1.out]; omega) (by omega)).mono ?_
        rw [decide_eq_true (rfl : l = l)]
        rintro e w9 ⟨rfl, hb9⟩
        have hw9 := Below.then hw8 hb9
        have hrb9 := hrb8.below hb9
        have rv9 := rv8.below hb9
        clear cv8 hra8 hw8 hrb8 rv8 hb9
        go_wp2_with fail
        refine (gcolumn_any _ _ _ _ 1 _ rv9 (by omega)).mono ?_
        rw [hc2.2]
        rintro e w10 ⟨v10, rfl, o10, hb10⟩
        obtain ⟨a10, c10, rfl, -, -, cv10, -⟩ := o10.sv
        have hrb10 := (hrb9.below hb10).wv
        have hw10 := Below.then hw9 hb10
        clear hrb9 hw9 hb10 o10 rv9
        go_wp2_with fail
        refine (same7_any _ _ _ l' _ _ _ l' _ cv10 hrb10.1 (by rw [hl2.out]; omega) (by omega)).mono ?_
        rw [decide_eq_true (rfl : l' = l')]
        rintro e w11 ⟨rfl, hb11⟩
        have hw11 := Below.then hw10 hb11
        clear cv10 hrb10 hw10 hb11
        go_wp2_with fail
        go_ret
        exact ⟨rfl, hw11⟩
      · have hnn : n' ≠ n := fun h => hok (okC_two.2 (by rw [hl1, hl2]; exact h))
        have hnb : (((n : Nat) : Int) == ((n' : Nat) : Int)) = false := by rw [beq_eq_false_iff_ne]; omega
        replace hnn := Lib.hid hnn
        replace hl1 := Lib.hid hl1
        replace hl2 := Lib.hid hl2
        go_wp2_with fail
        refine (grows_any none 0 0 [] _ (rvs_none _) (by omega) (by simp)).mono ?_
        rintro e w3 ⟨he, hb3⟩
        rcases he with ⟨hbad, -⟩ | ⟨-, rfl⟩
        · exact absurd hbad okC_none
        have hra := hra.below hb3
        have hrb := hrb.below hb3
        have hw3 := Below.then hw2 hb3
        go_wp2_with fail
        have hr1 := rvs_one (w := w3.alloc (.cells #[] 48)) (rowAt_nil _ w3.heap.size) 43
        rw [heap_alloc] at hr1
        have hb4 := Joins.below_alloc2 w3 (.cells #[] 48) (.cells #[.slice (some ⟨w3.heap.size, 0, none⟩) 0 0] 43)
        refine (gcolumn_any _ 1 1 [[]] 0 _ hr1 (by omega)).mono ?_
        rw [colL_zero]
        rintro e w5 ⟨v5, rfl, o5, hb5⟩
        obtain ⟨a5, c5, rfl⟩ := OS.shape (n := 0) o5
        have hra := (hra.below hb4).below hb5
        have hrb := (hrb.below hb4).below hb5
        have hw5 := Below.then (Below.then hw3 hb4) hb5
        clear hr1 o5 hw3
        go_wp2_with fail
        have hr2 := rvs_one (w := w5.alloc (.cells #[.int .i64 0, .string ⟨#[]⟩] 48)) (RowAt.of (SV.lit (k := 2) w5 (vcells nA) 1 48 rfl (vcells_one _)) (Nat.le_refl _) (Nat.le_refl _) (show (1 : Nat) ≤ maxLen by unfold maxLen; decide)) 43
        rw [heap_alloc] at hr2
        have hb6 := Joins.below_alloc2 w5 (.cells #[.int .i64 0, .string ⟨#[]⟩] 48) (.cells #[.slice (some ⟨w5.heap.size, 0, none⟩) 1 1] 43)
        refine (gcolumn_any _ 1 1 [nA] (-1) _ hr2 (by omega)).mono ?_
        rw [colL_below]
        rintro e w7 ⟨v7, rfl, o7, hb7⟩
        obtain ⟨a7, c7, rfl⟩ := OS.shape (n := 0) o7
        have hra := (hra.below hb6).below hb7
        have hrb := (hrb.below hb6).below hb7
        have hw7 := Below.then (Below.then hw5 hb6) hb7
        go_wp2_with fail
        go_ret
        exact ⟨rfl, hw7⟩
    · have h2z : (n' : Int) > 60 := by omega
      obtain ⟨z', hz'⟩ : ∃ z' : Nat, z' = 60 := ⟨60, rfl⟩
      obtain ⟨a6, hs6, hr6⟩ := hr'.cut z' (by omega)
      have hs6 : ∀ wx, (Instr.slice 37 (.slice A' n' c') none (some (.int .i64 60)) none).run Try.prog wx = .ok (.slice a6 z' c') wx := by rw [show (60 : Int) = ((z' : Nat) : Int) by omega]; exact hs6
      have hz6 : z' ≤ 60 := by omega
      clear hr' hz'
      generalize l'.take z' = k' at *
      go_wp2_with fail
      clear hs6
      have hba := Joins.below_alloc1 w1 (.cells #[.slice A n c, .slice a6 z' c'] 37)
      have hla := (hr).wv
      have hlb := (hr6).wv
      have hl1 := WV.len hla.1
      have hl2 := WV.len hlb.1
      refine (grows_any (some ⟨w1.heap.size, 0, none⟩) 2 2 [l, k'] _ (rvs_two hr hr6 37) (by omega) (by show List.length l ≤ _; omega)).mono ?_
      rintro e w2 ⟨he, hb2⟩
      have hra := ((hr).below hba).below hb2
      have hrb := ((hr6).below hba).below hb2
      have hw2 := Below.then (Below.then hb1 hba) hb2
      clear hb2 hba hla hlb hr hr6 hb1
      rcases he with ⟨hok, A3, C3, rfl, h31, h32, h33, rv3⟩ | ⟨hok, rfl⟩
      · have hnn : z' = n := by rw [← hl1, ← hl2]; exact okC_two.1 hok
        rw [show List.length ([l, k'].getD 0 []) = n from hl1] at h31 rv3 ⊢
        have hnb : ((n : Nat) : Int) = ((z' : Nat) : Int) := by omega
        replace hnn := Lib.hid hnn
        replace hl1 := Lib.hid hl1
        replace hl2 := Lib.hid hl2
        go_wp2_with fail
        refine (grows_any none 0 0 [] _ (rvs_none _) (by omega) (by simp)).mono ?_
        rintro e w3 ⟨he, hb3⟩
        rcases he with ⟨hbad, -⟩ | ⟨-, rfl⟩
        · exact absurd hbad okC_none
        have hra := hra.below hb3
        have hrb := hrb.below hb3
        have hw3 := Below.then hw2 hb3
        have rv4 := rv3.below hb3
        go_wp2_with fail
        have hr1 := rvs_one (w := w3.alloc (.cells #[] 48)) (rowAt_nil _ w3.heap.size) 43
        rw [heap_alloc] at hr1
        have hb4 := Joins.below_alloc2 w3 (.cells #[] 48) (.cells #[.slice (some ⟨w3.heap.size, 0, none⟩) 0 0] 43)
        refine (gcolumn_any _ 1 1 [[]] 0 _ hr1 (by omega)).mono ?_
        rw [colL_zero]
        rintro e w5 ⟨v5, rfl, o5, hb5⟩
        obtain ⟨a5, c5, rfl⟩ := OS.shape (n := 0) o5
        have hra := (hra.below hb4).below hb5
        have hrb := (hrb.below hb4).below hb5
        have hw5 := Below.then (Below.then hw3 hb4) hb5
        clear hr1 o5 hw3
        go_wp2_with fail
        have hr2 := rvs_one (w := w5.alloc (.cells #[.int .i64 0, .string ⟨#[]⟩] 48)) (RowAt.of (SV.lit (k := 2) w5 (vcells nA) 1 48 rfl (vcells_one _)) (Nat.le_refl _) (Nat.le_refl _) (show (1 : Nat) ≤ maxLen by unfold maxLen; decide)) 43
        rw [heap_alloc] at hr2
        have hb6 := Joins.below_alloc2 w5 (.cells #[.int .i64 0, .string ⟨#[]⟩] 48) (.cells #[.slice (some ⟨w5.heap.size, 0, none⟩) 1 1] 43)
        refine (gcolumn_any _ 1 1 [nA] (-1) _ hr2 (by omega)).mono ?_
        rw [colL_below]
        rintro e w7 ⟨v7, rfl, o7, hb7⟩
        obtain ⟨a7, c7, rfl⟩ := OS.shape (n := 0) o7
        have hra := (hra.below hb6).below hb7
        have hrb := (hrb.below hb6).below hb7
        have hw7 := Below.then (Below.then hw5 hb6) hb7
        have rv7 := (((rv4.below hb4).below hb5).below hb6).below hb7
        clear hr2 hb6 hb7 o7 hw5 rv3 rv4
        have hc2 := rows_two (l := l) (l' := k') (by rw [hl1.out, hl2.out, hnn.out])
        rw [hl1.out] at hc2
        go_wp2_with fail
        refine (gcolumn_any _ _ _ _ 0 _ rv7 (by omega)).mono ?_
        rw [hc2.1]
        rintro e w8 ⟨v8, rfl, o8, hb8⟩
        obtain ⟨a8, c8, rfl, -, -, cv8, -⟩ := o8.sv
        have hra8 := (hra.below hb8).wv
        have hw8 := Below.then hw7 hb8
        have hrb8 := hrb.below hb8
        have rv8 := rv7.below hb8
        clear hra hrb hw7 hb8 o8 rv7
        go_wp2_with fail
        refine (same7_any _ _ _ l _ _ _ l _ cv8 hra8.1 (by rw [hl1.out]; omega) (by omega)).mono ?_
        rw [decide_eq_true (rfl : l = l)]
        rintro e w9 ⟨rfl, hb9⟩
        have hw9 := Below.then hw8 hb9
        have hrb9 := hrb8.below hb9
        have rv9 := rv8.below hb9
        clear cv8 hra8 hw8 hrb8 rv8 hb9
        go_wp2_with fail
        refine (gcolumn_any _ _ _ _ 1 _ rv9 (by omega)).mono ?_
        rw [hc2.2]
        rintro e w10 ⟨v10, rfl, o10, hb10⟩
        obtain ⟨a10, c10, rfl, -, -, cv10, -⟩ := o10.sv
        have hrb10 := (hrb9.below hb10).wv
        have hw10 := Below.then hw9 hb10
        clear hrb9 hw9 hb10 o10 rv9
        go_wp2_with fail
        refine (same7_any _ _ _ k' _ _ _ k' _ cv10 hrb10.1 (by rw [hl2.out]; omega) (by omega)).mono ?_
        rw [decide_eq_true (rfl : k' = k')]
        rintro e w11 ⟨rfl, hb11⟩
        have hw11 := Below.then hw10 hb11
        clear cv10 hrb10 hw10 hb11
        go_wp2_with fail
        go_ret
        exact ⟨rfl, hw11⟩
      · have hnn : z' ≠ n := fun h => hok (okC_two.2 (by rw [hl1, hl2]; exact h))
        have hnb : (((n : Nat) : Int) == ((z' : Nat) : Int)) = false := by rw [beq_eq_false_iff_ne]; omega
        replace hnn := Lib.hid hnn
        replace hl1 := Lib.hid hl1
        replace hl2 := Lib.hid hl2
        go_wp2_with fail
        refine (grows_any none 0 0 [] _ (rvs_none _) (by omega) (by simp)).mono ?_
        rintro e w3 ⟨he, hb3⟩
        rcases he with ⟨hbad, -⟩ | ⟨-, rfl⟩
        · exact absurd hbad okC_none
        have hra := hra.below hb3
        have hrb := hrb.below hb3
        have hw3 := Below.then hw2 hb3
        go_wp2_with fail
        have hr1 := rvs_one (w := w3.alloc (.cells #[] 48)) (rowAt_nil _ w3.heap.size) 43
        rw [heap_alloc] at hr1
        have hb4 := Joins.below_alloc2 w3 (.cells #[] 48) (.cells #[.slice (some ⟨w3.heap.size, 0, none⟩) 0 0] 43)
        refine (gcolumn_any _ 1 1 [[]] 0 _ hr1 (by omega)).mono ?_
        rw [colL_zero]
        rintro e w5 ⟨v5, rfl, o5, hb5⟩
        obtain ⟨a5, c5, rfl⟩ := OS.shape (n := 0) o5
        have hra := (hra.below hb4).below hb5
        have hrb := (hrb.below hb4).below hb5
        have hw5 := Below.then (Below.then hw3 hb4) hb5
        clear hr1 o5 hw3
        go_wp2_with fail
        have hr2 := rvs_one (w := w5.alloc (.cells #[.int .i64 0, .string ⟨#[]⟩] 48)) (RowAt.of (SV.lit (k := 2) w5 (vcells nA) 1 48 rfl (vcells_one _)) (Nat.le_refl _) (Nat.le_refl _) (show (1 : Nat) ≤ maxLen by unfold maxLen; decide)) 43
        rw [heap_alloc] at hr2
        have hb6 := Joins.below_alloc2 w5 (.cells #[.int .i64 0, .string ⟨#[]⟩] 48) (.cells #[.slice (some ⟨w5.heap.size, 0, none⟩) 1 1] 43)
        refine (gcolumn_any _ 1 1 [nA] (-1) _ hr2 (by omega)).mono ?_
        rw [colL_below]
        rintro e w7 ⟨v7, rfl, o7, hb7⟩
        obtain ⟨a7, c7, rfl⟩ := OS.shape (n := 0) o7
        have hra := (hra.below hb6).below hb7
        have hrb := (hrb.below hb6).below hb7
        have hw7 := Below.then (Below.then hw5 hb6) hb7
        go_wp2_with fail
        go_ret
        exact ⟨rfl, hw7⟩
  · have h1z : (n : Int) > 60 := by omega
    obtain ⟨z, hz⟩ : ∃ z : Nat, z = 60 := ⟨60, rfl⟩
    obtain ⟨a5, hs5, hr5⟩ := hr.cut z (by omega)
    have hs5 : ∀ wx, (Instr.slice 37 (.slice A n c) none (some (.int .i64 60)) none).run Try.prog wx = .ok (.slice a5 z c) wx := by rw [show (60 : Int) = ((z : Nat) : Int) by omega]; exact hs5
    have hz5 : z ≤ 60 := by omega
    clear hr hz
    generalize l.take z = k at *
    by_cases h2 : n' ≤ 60
    · have h2z : ¬ (n' : Int) > 60 := by omega
      go_wp2_with fail
      clear hs5
      have hba := Joins.below_alloc1 w1 (.cells #[.slice a5 z c, .slice A' n' c'] 37)
      have hla := (hr5).wv
      have hlb := (hr').wv
      have hl1 := WV.len hla.1
      have hl2 := WV.len hlb.1
      refine (grows_any (some ⟨w1.heap.size, 0, none⟩) 2 2 [k, l'] _ (rvs_two hr5 hr' 37) (by omega) (by show List.length k ≤ _; omega)).mono ?_
      rintro e w2 ⟨he, hb2⟩
      have hra := ((hr5).below hba).below hb2
      have hrb := ((hr').below hba).below hb2
      have hw2 := Below.then (Below.then hb1 hba) hb2
      clear hb2 hba hla hlb hr5 hr' hb1
      rcases he with ⟨hok, A3, C3, rfl, h31, h32, h33, rv3⟩ | ⟨hok, rfl⟩
      · have hnn : n' = z := by rw [← hl1, ← hl2]; exact okC_two.1 hok
        rw [show List.length ([k, l'].getD 0 []) = z from hl1] at h31 rv3 ⊢
        have hnb : ((z : Nat) : Int) = ((n' : Nat) : Int) := by omega
        replace hnn := Lib.hid hnn
        replace hl1 := Lib.hid hl1
        replace hl2 := Lib.hid hl2
        go_wp2_with fail
        refine (grows_any none 0 0 [] _ (rvs_none _) (by omega) (by simp)).mono ?_
        rintro e w3 ⟨he, hb3⟩
        rcases he with ⟨hbad, -⟩ | ⟨-, rfl⟩
        · exact absurd hbad okC_none
        have hra := hra.below hb3
        have hrb := hrb.below hb3
        have hw3 := Below.then hw2 hb3
        have rv4 := rv3.below hb3
        go_wp2_with fail
        have hr1 := rvs_one (w := w3.alloc (.cells #[] 48)) (rowAt_nil _ w3.heap.size) 43
        rw [heap_alloc] at hr1
        have hb4 := Joins.below_alloc2 w3 (.cells #[] 48) (.cells #[.slice (some ⟨w3.heap.size, 0, none⟩) 0 0] 43)
        refine (gcolumn_any _ 1 1 [[]] 0 _ hr1 (by omega)).mono ?_
        rw [colL_zero]
        rintro e w5 ⟨v5, rfl, o5, hb5⟩
        obtain ⟨a5, c5, rfl⟩ := OS.shape (n := 0) o5
        have hra := (hra.below hb4).below hb5
        have hrb := (hrb.below hb4).below hb5
        have hw5 := Below.then (Below.then hw3 hb4) hb5
        clear hr1 o5 hw3
        go_wp2_with fail
        have hr2 := rvs_one (w := w5.alloc (.cells #[.int .i64 0, .string ⟨#[]⟩] 48)) (RowAt.of (SV.lit (k := 2) w5 (vcells nA) 1 48 rfl (vcells_one _)) (Nat.le_refl _) (Nat.le_refl _) (show (1 : Nat) ≤ maxLen by unfold maxLen; decide)) 43
        rw [heap_alloc] at hr2
        have hb6 := Joins.below_alloc2 w5 (.cells #[.int .i64 0, .string ⟨#[]⟩] 48) (.cells #[.slice (some ⟨w5.heap.size, 0, none⟩) 1 1] 43)
        refine (gcolumn_any _ 1 1 [nA] (-1) _ hr2 (by omega)).mono ?_
        rw [colL_below]
        rintro e w7 ⟨v7, rfl, o7, hb7⟩
        obtain ⟨a7, c7, rfl⟩ := OS.shape (n := 0) o7
        have hra := (hra.below hb6).below hb7
        have hrb := (hrb.below hb6).below hb7
        have hw7 := Below.then (Below.then hw5 hb6) hb7
        have rv7 := (((rv4.below hb4).below hb5).below hb6).below hb7
        clear hr2 hb6 hb7 o7 hw5 rv3 rv4
        have hc2 := rows_two (l := k) (l' := l') (by rw [hl1.out, hl2.out, hnn.out])
        rw [hl1.out] at hc2
        go_wp2_with fail
        refine (gcolumn_any _ _ _ _ 0 _ rv7 (by omega)).mono ?_
        rw [hc2.1]
        rintro e w8 ⟨v8, rfl, o8, hb8⟩
        obtain ⟨a8, c8, rfl, -, -, cv8, -⟩ := o8.sv
        have hra8 := (hra.below hb8).wv
        have hw8 := Below.then hw7 hb8
        have hrb8 := hrb.below hb8
        have rv8 := rv7.below hb8
        clear hra hrb hw7 hb8 o8 rv7
        go_wp2_with fail
        refine (same7_any _ _ _ k _ _ _ k _ cv8 hra8.1 (by rw [hl1.out]; omega) (by omega)).mono ?_
        rw [decide_eq_true (rfl : k = k)]
        rintro e w9 ⟨rfl, hb9⟩
        have hw9 := Below.then hw8 hb9
        have hrb9 := hrb8.below hb9
        have rv9 := rv8.below hb9
        clear cv8 hra8 hw8 hrb8 rv8 hb9
        go_wp2_with fail
        refine (gcolumn_any _ _ _ _ 1 _ rv9 (by omega)).mono ?_
        rw [hc2.2]
        rintro e w10 ⟨v10, rfl, o10, hb10⟩
        obtain ⟨a10, c10, rfl, -, -, cv10, -⟩ := o10.sv
        have hrb10 := (hrb9.below hb10).wv
        have hw10 := Below.then hw9 hb10
        clear hrb9 hw9 hb10 o10 rv9
        go_wp2_with fail
        refine (same7_any _ _ _ l' _ _ _ l' _ cv10 hrb10.1 (by rw [hl2.out]; omega) (by omega)).mono ?_
        rw [decide_eq_true (rfl : l' = l')]
        rintro e w11 ⟨rfl, hb11⟩
        have hw11 := Below.then hw10 hb11
        clear cv10 hrb10 hw10 hb11
        go_wp2_with fail
        go_ret
        exact ⟨rfl, hw11⟩
      · have hnn : n' ≠ z := fun h => hok (okC_two.2 (by rw [hl1, hl2]; exact h))
        have hnb : (((z : Nat) : Int) == ((n' : Nat) : Int)) = false := by rw [beq_eq_false_iff_ne]; omega
        replace hnn := Lib.hid hnn
        replace hl1 := Lib.hid hl1
        replace hl2 := Lib.hid hl2
        go_wp2_with fail
        refine (grows_any none 0 0 [] _ (rvs_none _) (by omega) (by simp)).mono ?_
        rintro e w3 ⟨he, hb3⟩
        rcases he with ⟨hbad, -⟩ | ⟨-, rfl⟩
        · exact absurd hbad okC_none
        have hra := hra.below hb3
        have hrb := hrb.below hb3
        have hw3 := Below.then hw2 hb3
        go_wp2_with fail
        have hr1 := rvs_one (w := w3.alloc (.cells #[] 48)) (rowAt_nil _ w3.heap.size) 43
        rw [heap_alloc] at hr1
        have hb4 := Joins.below_alloc2 w3 (.cells #[] 48) (.cells #[.slice (some ⟨w3.heap.size, 0, none⟩) 0 0] 43)
        refine (gcolumn_any _ 1 1 [[]] 0 _ hr1 (by omega)).mono ?_
        rw [colL_zero]
        rintro e w5 ⟨v5, rfl, o5, hb5⟩
        obtain ⟨a5, c5, rfl⟩ := OS.shape (n := 0) o5
        have hra := (hra.below hb4).below hb5
        have hrb := (hrb.below hb4).below hb5
        have hw5 := Below.then (Below.then hw3 hb4) hb5
        clear hr1 o5 hw3
        go_wp2_with fail
        have hr2 := rvs_one (w := w5.alloc (.cells #[.int .i64 0, .string ⟨#[]⟩] 48)) (RowAt.of (SV.lit (k := 2) w5 (vcells nA) 1 48 rfl (vcells_one _)) (Nat.le_refl _) (Nat.le_refl _) (show (1 : Nat) ≤ maxLen by unfold maxLen; decide)) 43
        rw [heap_alloc] at hr2
        have hb6 := Joins.below_alloc2 w5 (.cells #[.int .i64 0, .string ⟨#[]⟩] 48) (.cells #[.slice (some ⟨w5.heap.size, 0, none⟩) 1 1] 43)
        refine (gcolumn_any _ 1 1 [nA] (-1) _ hr2 (by omega)).mono ?_
        rw [colL_below]
        rintro e w7 ⟨v7, rfl, o7, hb7⟩
        obtain ⟨a7, c7, rfl⟩ := OS.shape (n := 0) o7
        have hra := (hra.below hb6).below hb7
        have hrb := (hrb.below hb6).below hb7
        have hw7 := Below.then (Below.then hw5 hb6) hb7
        go_wp2_with fail
        go_ret
        exact ⟨rfl, hw7⟩
    · have h2z : (n' : Int) > 60 := by omega
      obtain ⟨z', hz'⟩ : ∃ z' : Nat, z' = 60 := ⟨60, rfl⟩
      obtain ⟨a6, hs6, hr6⟩ := hr'.cut z' (by omega)
      have hs6 : ∀ wx, (Instr.slice 37 (.slice A' n' c') none (some (.int .i64 60)) none).run Try.prog wx = .ok (.slice a6 z' c') wx := by rw [show (60 : Int) = ((z' : Nat) : Int) by omega]; exact hs6
      have hz6 : z' ≤ 60 := by omega
      clear hr' hz'
      generalize l'.take z' = k' at *
      go_wp2_with fail
      clear hs5 hs6
      have hba := Joins.below_alloc1 w1 (.cells #[.slice a5 z c, .slice a6 z' c'] 37)
      have hla := (hr5).wv
      have hlb := (hr6).wv
      have hl1 := WV.len hla.1
      have hl2 := WV.len hlb.1
      refine (grows_any (some ⟨w1.heap.size, 0, none⟩) 2 2 [k, k'] _ (rvs_two hr5 hr6 37) (by omega) (by show List.length k ≤ _; omega)).mono ?_
      rintro e w2 ⟨he, hb2⟩
      have hra := ((hr5).below hba).below hb2
      have hrb := ((hr6).below hba).below hb2
      have hw2 := Below.then (Below.then hb1 hba) hb2
      clear hb2 hba hla hlb hr5 hr6 hb1
      rcases he with ⟨hok, A3, C3, rfl, h31, h32, h33, rv3⟩ | ⟨hok, rfl⟩
      · have hnn : z' = z := by rw [← hl1, ← hl2]; exact okC_two.1 hok
        rw [show List.length ([k, k'].getD 0 []) = z from hl1] at h31 rv3 ⊢
        have hnb : ((z : Nat) : Int) = ((z' : Nat) : Int) := by omega
        replace hnn := Lib.hid hnn
        replace hl1 := Lib.hid hl1
        replace hl2 := Lib.hid hl2
        go_wp2_with fail
        refine (grows_any none 0 0 [] _ (rvs_none _) (by omega) (by simp)).mono ?_
        rintro e w3 ⟨he, hb3⟩
        rcases he with ⟨hbad, -⟩ | ⟨-, rfl⟩
        · exact absurd hbad okC_none
        have hra := hra.below hb3
        have hrb := hrb.below hb3
        have hw3 := Below.then hw2 hb3
        have rv4 := rv3.below hb3
        go_wp2_with fail
        have hr1 := rvs_one (w := w3.alloc (.cells #[] 48)) (rowAt_nil _ w3.heap.size) 43
        rw [heap_alloc] at hr1
        have hb4 := Joins.below_alloc2 w3 (.cells #[] 48) (.cells #[.slice (some ⟨w3.heap.size, 0, none⟩) 0 0] 43)
        refine (gcolumn_any _ 1 1 [[]] 0 _ hr1 (by omega)).mono ?_
        rw [colL_zero]
        rintro e w5 ⟨v5, rfl, o5, hb5⟩
        obtain ⟨a5, c5, rfl⟩ := OS.shape (n := 0) o5
        have hra := (hra.below hb4).below hb5
        have hrb := (hrb.below hb4).below hb5
        have hw5 := Below.then (Below.then hw3 hb4) hb5
        clear hr1 o5 hw3
        go_wp2_with fail
        have hr2 := rvs_one (w := w5.alloc (.cells #[.int .i64 0, .string ⟨#[]⟩] 48)) (RowAt.of (SV.lit (k := 2) w5 (vcells nA) 1 48 rfl (vcells_one _)) (Nat.le_refl _) (Nat.le_refl _) (show (1 : Nat) ≤ maxLen by unfold maxLen; decide)) 43
        rw [heap_alloc] at hr2
        have hb6 := Joins.below_alloc2 w5 (.cells #[.int .i64 0, .string ⟨#[]⟩] 48) (.cells #[.slice (some ⟨w5.heap.size, 0, none⟩) 1 1] 43)
        refine (gcolumn_any _ 1 1 [nA] (-1) _ hr2 (by omega)).mono ?_
        rw [colL_below]
        rintro e w7 ⟨v7, rfl, o7, hb7⟩
        obtain ⟨a7, c7, rfl⟩ := OS.shape (n := 0) o7
        have hra := (hra.below hb6).below hb7
        have hrb := (hrb.below hb6).below hb7
        have hw7 := Below.then (Below.then hw5 hb6) hb7
        have rv7 := (((rv4.below hb4).below hb5).below hb6).below hb7
        clear hr2 hb6 hb7 o7 hw5 rv3 rv4
        have hc2 := rows_two (l := k) (l' := k') (by rw [hl1.out, hl2.out, hnn.out])
        rw [hl1.out] at hc2
        go_wp2_with fail
        refine (gcolumn_any _ _ _ _ 0 _ rv7 (by omega)).mono ?_
        rw [hc2.1]
        rintro e w8 ⟨v8, rfl, o8, hb8⟩
        obtain ⟨a8, c8, rfl, -, -, cv8, -⟩ := o8.sv
        have hra8 := (hra.below hb8).wv
        have hw8 := Below.then hw7 hb8
        have hrb8 := hrb.below hb8
        have rv8 := rv7.below hb8
        clear hra hrb hw7 hb8 o8 rv7
        go_wp2_with fail
        refine (same7_any _ _ _ k _ _ _ k _ cv8 hra8.1 (by rw [hl1.out]; omega) (by omega)).mono ?_
        rw [decide_eq_true (rfl : k = k)]
        rintro e w9 ⟨rfl, hb9⟩
        have hw9 := Below.then hw8 hb9
        have hrb9 := hrb8.below hb9
        have rv9 := rv8.below hb9
        clear cv8 hra8 hw8 hrb8 rv8 hb9
        go_wp2_with fail
        refine (gcolumn_any _ _ _ _ 1 _ rv9 (by omega)).mono ?_
        rw [hc2.2]
        rintro e w10 ⟨v10, rfl, o10, hb10⟩
        obtain ⟨a10, c10, rfl, -, -, cv10, -⟩ := o10.sv
        have hrb10 := (hrb9.below hb10).wv
        have hw10 := Below.then hw9 hb10
        clear hrb9 hw9 hb10 o10 rv9
        go_wp2_with fail
        refine (same7_any _ _ _ k' _ _ _ k' _ cv10 hrb10.1 (by rw [hl2.out]; omega) (by omega)).mono ?_
        rw [decide_eq_true (rfl : k' = k')]
        rintro e w11 ⟨rfl, hb11⟩
        have hw11 := Below.then hw10 hb11
        clear cv10 hrb10 hw10 hb11
        go_wp2_with fail
        go_ret
        exact ⟨rfl, hw11⟩
      · have hnn : z' ≠ z := fun h => hok (okC_two.2 (by rw [hl1, hl2]; exact h))
        have hnb : (((z : Nat) : Int) == ((z' : Nat) : Int)) = false := by rw [beq_eq_false_iff_ne]; omega
        replace hnn := Lib.hid hnn
        replace hl1 := Lib.hid hl1
        replace hl2 := Lib.hid hl2
        go_wp2_with fail
        refine (grows_any none 0 0 [] _ (rvs_none _) (by omega) (by simp)).mono ?_
        rintro e w3 ⟨he, hb3⟩
        rcases he with ⟨hbad, -⟩ | ⟨-, rfl⟩
        · exact absurd hbad okC_none
        have hra := hra.below hb3
        have hrb := hrb.below hb3
        have hw3 := Below.then hw2 hb3
        go_wp2_with fail
        have hr1 := rvs_one (w := w3.alloc (.cells #[] 48)) (rowAt_nil _ w3.heap.size) 43
        rw [heap_alloc] at hr1
        have hb4 := Joins.below_alloc2 w3 (.cells #[] 48) (.cells #[.slice (some ⟨w3.heap.size, 0, none⟩) 0 0] 43)
        refine (gcolumn_any _ 1 1 [[]] 0 _ hr1 (by omega)).mono ?_
        rw [colL_zero]
        rintro e w5 ⟨v5, rfl, o5, hb5⟩
        obtain ⟨a5, c5, rfl⟩ := OS.shape (n := 0) o5
        have hra := (hra.below hb4).below hb5
        have hrb := (hrb.below hb4).below hb5
        have hw5 := Below.then (Below.then hw3 hb4) hb5
        clear hr1 o5 hw3
        go_wp2_with fail
        have hr2 := rvs_one (w := w5.alloc (.cells #[.int .i64 0, .string ⟨#[]⟩] 48)) (RowAt.of (SV.lit (k := 2) w5 (vcells nA) 1 48 rfl (vcells_one _)) (Nat.le_refl _) (Nat.le_refl _) (show (1 : Nat) ≤ maxLen by unfold maxLen; decide)) 43
        rw [heap_alloc] at hr2
        have hb6 := Joins.below_alloc2 w5 (.cells #[.int .i64 0, .string ⟨#[]⟩] 48) (.cells #[.slice (some ⟨w5.heap.size, 0, none⟩) 1 1] 43)
        refine (gcolumn_any _ 1 1 [nA] (-1) _ hr2 (by omega)).mono ?_
        rw [colL_below]
        rintro e w7 ⟨v7, rfl, o7, hb7⟩
        obtain ⟨a7, c7, rfl⟩ := OS.shape (n := 0) o7
        have hra := (hra.below hb6).below hb7
        have hrb := (hrb.below hb6).below hb7
        have hw7 := Below.then (Below.then hw5 hb6) hb7
        go_wp2_with fail
        go_ret
        exact ⟨rfl, hw7⟩
end Go.Proofs.Ytiigcjncpjdkcaa
/-
  GrainOdd: for every two lists of values the statement's function returns true, and its arguments read as they did. No condition.
-/
namespace Go.Proofs.Ytiigcjncpjdkcaa.grainOdd
open Go.ChangeShapes Go.WideShapes Go.ChangeAt Go.RowKit
set_option linter.unusedVariables false
set_option maxRecDepth 4000

set_option maxRecDepth 100000 in
theorem lifted (os : Os) (started : os.Started) (H : Type) (enc : TypeId × Value → H) :
    ReturnsInHanded {} Try.checked os 5 .any (Rows.grainOddSpec.pre6 enc Try.prog Try.f5 Rows.grainOddRow.domain false) (Rows.grainOddSpec.post enc Try.prog Try.f5 false true false false) := by
  refine returnsInHanded_of_change (C := Try.checked) own started (by kernel_rfl) Try.func5
    (ChangeSpec.witness6 (enc := enc) (C := Try.checked) false ⟨#[], #[.slice none 0 0, .slice none 0 0], []⟩ 8 (by kernel_rfl) (by kernel_rfl) (by kernel_rfl) (by kernel_rfl)) ?_
  intro W base args ds gs before hval0 hW hcnd _
  have hval : ∀ (j : Nat) t v, Try.f5.params[j]? = some t → args[j]? = some v → Value.okWide Try.prog W .any base t v := hval0
  have hW' := hW
  obtain ⟨p, q, hA0, hV, rfl, hfz, hnd⟩ := hW
  have hA : DataW.TrodAll enc Try.prog W 0 (fun _ => true) true Try.f5.params.toList args.toList ds p := hA0
  rw [Try.params5] at hA hval
  obtain ⟨v0, vs0, d0, ds0, p0, q0, hargs0, rfl, rfl, h0, r0⟩ := trodAll_cons hA
  obtain ⟨v1, vs1, d1, ds1, p1, q1, hargs1, hds1, hq1, h1, r1⟩ := trodAll_cons r0
  obtain ⟨hn1, hn2, hn3⟩ := trodAll_nil r1
  subst hn2 hn3
  subst hds1 hq1
  obtain rfl : args = #[v0, v1] := by cases args; simp_all
  obtain ⟨rfl, rfl⟩ := trodVars_none hV
  have rd0 := h0
  have lt0 : ∀ x ∈ p0, x.block < W.heap.size := by obtain ⟨m, hm⟩ := rd0; exact DataW.trod_lt m _ _ _ hm
  obtain ⟨A0, n0, c0, v0, rfl, R0⟩ := open_valuesR (hval 0 37 v0 rfl rfl) h0
  have rd1 := h1
  have lt1 : ∀ x ∈ p1, x.block < W.heap.size := by obtain ⟨m, hm⟩ := rd1; exact DataW.trod_lt m _ _ _ hm
  obtain ⟨A1, n1, c1, v1, rfl, R1⟩ := open_valuesR (hval 1 37 v1 rfl rfl) h1
  clear hA0 hval0
  refine (oddA_is A0 n0 c0 v0 A1 n1 c1 v1 W R0 R1).mono fun e W' ⟨he, bel⟩ => ?_
  subst he
  exact ⟨_, rfl, _, _, _, [], _, [], hW', trodAll_mk1 (shut_bool Try.underlying4 _), (trodAll_cons_mk (Below.trod laidOut (by kernel_rfl) (of_decide_eq_true (by kernel_rfl)) rd0 bel lt0) (trodAll_cons_mk (Below.trod laidOut (by kernel_rfl) (of_decide_eq_true (by kernel_rfl)) rd1 bel lt1) trodAll_mk0)), rfl, bel.frame _, fun h => by cases h⟩

theorem over : Rows.grainOddRow.holds Try.pinned (OpenSpec.ofChange Rows.grainOddSpec) :=
  OpenClaim.holds_of_wide 5 Try.f5 rfl rfl rfl rfl rfl rfl rfl ⟨rfl, rfl, rfl, rfl, rfl⟩ rfl rfl rfl rfl rfl (by kernel_rfl) Try.func5 (by kernel_rfl)
    (of_decide_eq_true (by kernel_rfl)) (by unfold Func.isWrapper; first | (rw [if_pos (by decide +kernel)]; kernel_rfl) | (rw [if_neg (by decide +kernel)]; exact ⟨rfl, rfl⟩))
    (fun os started H enc _ => lifted os started H enc)
end Go.Proofs.Ytiigcjncpjdkcaa.grainOdd
namespace Go.Proofs.Ytiigcjncpjdkcaa
theorem grainOdd_holds : Rows.GrainOddSaid := grainOdd.over
end Go.Proofs.Ytiigcjncpjdkcaa
