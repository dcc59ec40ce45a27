/- ValueOrder: the walk. -/
import Derived.Test.YtoebghfjpkkegaaDoorV3f
import Derived.Deep.DeepCutAuto
namespace Go.Proofs.YtoebghfjpkkegaaDoor
open Go.ChangeShapes Go.WideShapes Go.ChangeAt Go.RowKit
set_option linter.unusedVariables false

theorem cmpB : ∀ (a b : List UInt8), Lib.compareBytes a b = cmpL (a.map fun x => (x.toNat : Int)) (b.map fun x => (x.toNat : Int))
  | [], [] => rfl
  | [], _ :: _ => rfl
  | _ :: _, [] => rfl
  | a :: l, b :: r => by
    rw [Lib.compareBytes, List.map_cons, List.map_cons, cmpL, cmpB l r]
    have h1 : (a < b) ↔ ((a.toNat : Int) < (b.toNat : Int)) := by rw [UInt8.lt_iff_toNat_lt]; omega
    have h2 : (b < a) ↔ ((b.toNat : Int) < (a.toNat : Int)) := by rw [UInt8.lt_iff_toNat_lt]; omega
    by_cases c1 : a < b
    · rw [if_pos c1, if_pos (h1.1 c1)]
    · rw [if_neg c1, if_neg (fun h => c1 (h1.2 h))]
      by_cases c2 : b < a
      · rw [if_pos c2, if_pos (h2.1 c2)]
      · rw [if_neg c2, if_neg (fun h => c2 (h2.2 h))]
theorem cmp_nums (a b : ByteArray) : Lib.compareBytes a.data.toList b.data.toList = cmpL (nums a) (nums b) := cmpB _ _
theorem cmpI_range (a b : Int) : cmpI a b = -1 ∨ cmpI a b = 0 ∨ cmpI a b = 1 := by
  unfold cmpI
  split
  · simp
  · split <;> simp
theorem cmpI_eq (a b : Int) : cmpI a b = 0 ↔ a = b := by
  unfold cmpI
  split
  · constructor <;> intro h <;> omega
  · split <;> constructor <;> intro h <;> omega
theorem cmpI_anti (a b : Int) : cmpI b a = - cmpI a b := by
  unfold cmpI
  by_cases h1 : a < b
  · rw [if_neg (by omega), if_pos h1, if_pos h1]; rfl
  · by_cases h2 : b < a
    · rw [if_pos h2, if_neg h1, if_pos h2]
    · rw [if_neg h2, if_neg h1, if_neg h1, if_neg h2]; rfl
theorem cmpI_trans (a b c : Int) (h1 : cmpI a b ≤ 0) (h2 : cmpI b c ≤ 0) : cmpI a c ≤ 0 := by
  unfold cmpI at *
  by_cases e1 : b < a
  · rw [if_neg (by omega), if_pos e1] at h1; omega
  · by_cases e2 : c < b
    · rw [if_neg (by omega), if_pos e2] at h2; omega
    · by_cases e3 : a < c
      · rw [if_pos e3]; omega
      · rw [if_neg e3, if_neg (by omega)]; omega
/-- all that an order has, of three values -/
structure Ord3 (x y z x' : Int) (e : Prop) : Prop where
  range : x = -1 ∨ x = 0 ∨ x = 1
  same : x = 0 ↔ e
  anti : x' = - x
  down : x ≤ 0 → y ≤ 0 → z ≤ 0
  up : 0 ≤ x → 0 ≤ y → 0 ≤ z
  zero : x = 0 → z = y
theorem cmpV_all {k an bn cn : Int} {sa sb sc : ByteArray} (hk : k = 1 ∨ k = 2 ∨ k = 3) (ha : fitsB k an sa = true) (hb : fitsB k bn sb = true) (hc : fitsB k cn sc = true)
    (qa : -9223372036854775808 ≤ an ∧ an ≤ 9223372036854775807) (qb : -9223372036854775808 ≤ bn ∧ bn ≤ 9223372036854775807) :
    Ord3 (cmpV k an sa bn sb) (cmpV k bn sb cn sc) (cmpV k an sa cn sc) (cmpV k bn sb an sa) (an = bn ∧ sa = sb) := by
  have e1 := cmpV_is (s := sa) (r := sb) (n := an) (m := bn) (t := k) (by rw [ha, hb]; rfl)
  have e2 := cmpV_is (s := sb) (r := sc) (n := bn) (m := cn) (t := k) (by rw [hb, hc]; rfl)
  have e3 := cmpV_is (s := sa) (r := sc) (n := an) (m := cn) (t := k) (by rw [ha, hc]; rfl)
  have e4 := cmpV_is (s := sb) (r := sa) (n := bn) (m := an) (t := k) (by rw [hb, ha]; rfl)
  rw [e1, e2, e3, e4]
  have num : ∀ (f : Int → Int), (f an = f bn → an = bn) → (k = 1 ∨ k = 2) → Ord3 (cmpI (f an) (f bn)) (cmpI (f bn) (f cn)) (cmpI (f an) (f cn)) (cmpI (f bn) (f an)) (an = bn ∧ sa = sb) := by
    intro f hf hk2
    refine ⟨cmpI_range _ _, ?_, cmpI_anti _ _, cmpI_trans _ _ _, ?_, ?_⟩
    · rw [cmpI_eq]
      exact ⟨fun h => ⟨hf h, by rw [fits_empty hk2 ha, fits_empty hk2 hb]⟩, fun h => by rw [h.1]⟩
    · intro h1 h2
      have := cmpI_trans (f cn) (f bn) (f an) (by rw [cmpI_anti (f bn)]; omega) (by rw [cmpI_anti (f an)]; omega)
      rw [cmpI_anti (f an)] at this; omega
    · intro h; rw [(cmpI_eq _ _).1 h]
  rcases hk with rfl | rfl | rfl
  · simp only [if_true]; exact num id id (.inl rfl)
  · simp only [show ¬ ((2 : Int) = 1) by decide, if_false, if_true]
    exact num (fun n => IntKind.u64.wrap n) (by intro h; simp only [IntKind.wrap_u64] at h; omega) (.inr rfl)
  · simp only [show ¬ ((3 : Int) = 1) by decide, show ¬ ((3 : Int) = 2) by decide, if_false, cmp_nums]
    have n0 : ∀ {n : Int} {s : ByteArray}, fitsB 3 n s = true → n = 0 := by intro n s h; simp [fitsB] at h; exact h.1
    refine ⟨cmpL_range _ _, ?_, cmpL_anti _ _, cmpL_trans _ _ _, ?_, ?_⟩
    · rw [cmpL_eq]
      exact ⟨fun h => ⟨by rw [n0 ha, n0 hb], nums_inj h⟩, fun h => by rw [h.2]⟩
    · intro h1 h2
      have := cmpL_trans (nums sc) (nums sb) (nums sa) (by rw [cmpL_anti (nums sb)]; omega) (by rw [cmpL_anti (nums sa)]; omega)
      rw [cmpL_anti (nums sa)] at this; omega
    · intro h; rw [(cmpL_eq _ _).1 h]
theorem cmpV_rng (k an : Int) (sa : ByteArray) (bn : Int) (sb : ByteArray) : cmpV k an sa bn sb = -1 ∨ cmpV k an sa bn sb = 0 ∨ cmpV k an sa bn sb = 1 := by
  unfold cmpV
  split
  · split
    · exact cmpI_range _ _
    · split
      · exact cmpI_range _ _
      · rw [cmp_nums]; exact cmpL_range _ _
  · exact .inr (.inl rfl)
theorem ne_split {an bn : Int} {sa sb : ByteArray} (h : ¬ (an = bn ∧ sa = sb)) : (an == bn) = false ∨ (an = bn ∧ (sa.toList == sb.toList) = false) := by
  by_cases h1 : an = bn
  · refine .inr ⟨h1, ?_⟩
    cases hb : (sa.toList == sb.toList)
    · rfl
    · exact absurd ⟨h1, toList_inj (beq_iff_eq.1 hb)⟩ h
  · left; simp [h1]
set_option maxHeartbeats 4000000 in
theorem valueOrder_walk (t n0 n1 n2 : Int) (s0 s1 s2 : ByteArray) (w : World) (h0 : 0 ≤ t) (h1 : t ≤ 255) (r0 : -9223372036854775808 ≤ n0 ∧ n0 ≤ 9223372036854775807) (r1 : -9223372036854775808 ≤ n1 ∧ n1 ≤ 9223372036854775807) (r2 : -9223372036854775808 ≤ n2 ∧ n2 ≤ 9223372036854775807) (htab : Tab w) :
    Calls Tryd.prog 4 #[.int .u8 t, .agg #[.int .i64 n0, .string s0, .int .i64 n1, .string s1, .int .i64 n2, .string s2]] w fun e w' => e = .returned (.bool true) ∧ Below w.heap.size w w' := by
  go_enter Tryd.func4, Tryd.ntmps4
  go_wp2_with fail
  refine (shown3_is _ (htab.alloc _)).mono ?_
  rintro e w1 ⟨rfl, hb1⟩
  have c0 := ar_cell hb1 0 (v := .int .i64 n0) rfl
  have c1 := ar_cell hb1 1 (v := .string s0) rfl
  have c2 := ar_cell hb1 2 (v := .int .i64 n1) rfl
  have c3 := ar_cell hb1 3 (v := .string s1) rfl
  have c4 := ar_cell hb1 4 (v := .int .i64 n2) rfl
  have c5 := ar_cell hb1 5 (v := .string s2) rfl
  have hw1 := after1 hb1
  clear hb1 htab
  go_wp2_with fail
  refine (kind_any t _ h0 h1).mono ?_
  rintro e w1 ⟨rfl, rfl⟩
  have hk := kind_of t h0
  generalize 1 + t % 3 = k at *
  go_wp2_with fail
  refine (fit_any k n0 s0 _).mono ?_
  rintro e w2 ⟨rfl, hb2⟩
  have hf0 := Lib.hid (fit_fits (n := n0) (s := s0) hk)
  have q0 := fitN_range (k := k) r0
  generalize fitN k n0 = an at *
  generalize fitS k s0 = sa at *
  have d2 := keepc c2 hb2
  have d3 := keepc c3 hb2
  have d4 := keepc c4 hb2
  have d5 := keepc c5 hb2
  have hw2 := Below.then hw1 hb2
  clear c0 c1 c2 c3 c4 c5 hw1 hb2
  have e2 := keepo d2
  have e3 := keepo d3
  go_wp2_with fail
  refine (fit_any k n1 s1 _).mono ?_
  rintro e w3 ⟨rfl, hb3⟩
  have hf1 := Lib.hid (fit_fits (n := n1) (s := s1) hk)
  have q1 := fitN_range (k := k) r1
  generalize fitN k n1 = bn at *
  generalize fitS k s1 = sb at *
  have xa := (Bx.new w2 an sa 23).below hb3
  have c4 := keepc (cell_alloc w2 _ d4) hb3
  have c5 := keepc (cell_alloc w2 _ d5) hb3
  have hw3 := Below.then hw2 (after1 hb3)
  clear d2 d3 d4 d5 e2 e3 hw2 hb3
  have e4 := keepo c4
  have e5 := keepo c5
  go_wp2_with fail
  refine (fit_any k n2 s2 _).mono ?_
  rintro e w4 ⟨rfl, hb4⟩
  have hf2 := Lib.hid (fit_fits (n := n2) (s := s2) hk)
  have q2 := fitN_range (k := k) r2
  generalize fitN k n2 = cn at *
  generalize fitS k s2 = sc at *
  have xb := (Bx.new w3 bn sb 23).below hb4
  have xa := (xa.alloc (.cells #[.int .i64 bn, .string sb] 23)).below hb4
  have hw4 := Below.then hw3 (after1 hb4)
  clear c4 c5 e4 e5 hw3 hb4
  have tr : Tri w (w4.alloc (.cells #[.int .i64 cn, .string sc] 23)) w2.heap.size an sa w3.heap.size bn sb w4.heap.size cn sc := ⟨xa.alloc _, xb.alloc _, Bx.new _ _ _ _, Below.then hw4 (Joins.below_alloc1 _ _)⟩
  clear xa xb hw4
  obtain ⟨p0, p1⟩ := tr.1
  obtain ⟨p2, p3⟩ := tr.2.1
  go_wp2_with fail
  refine (compare_any k an bn sa sb _).mono ?_
  rintro e w5 ⟨rfl, hb5⟩
  have tr5 := tr.below hb5
  clear p0 p1 p2 p3 tr hb5 xa
  generalize w2.heap.size = ba at *
  generalize w3.heap.size = bb at *
  generalize w4.heap.size = bc at *
  obtain ⟨p2, p3⟩ := tr5.2.1
  obtain ⟨p4, p5⟩ := tr5.2.2.1
  go_wp2_with fail
  refine (compare_any k bn cn sb sc _).mono ?_
  rintro e w6 ⟨rfl, hb6⟩
  have tr6 := tr5.below hb6
  clear p2 p3 p4 p5 tr5 hb6
  obtain ⟨p0, p1⟩ := tr6.1
  obtain ⟨p4, p5⟩ := tr6.2.2.1
  go_wp2_with fail
  refine (compare_any k an cn sa sc _).mono ?_
  rintro e w7 ⟨rfl, hb7⟩
  have tr7 := tr6.below hb7
  clear p0 p1 p4 p5 tr6 hb7
  obtain ⟨p0, p1⟩ := tr7.1
  obtain ⟨p2, p3⟩ := tr7.2.1
  have O := cmpV_all hk hf0.out hf1.out hf2.out q0 q1
  have hcmp := compare_any k bn an sb sa w7
  have oy := cmpV_rng k bn sb cn sc
  have oz := cmpV_rng k an sa cn sc
  generalize cmpV k an sa bn sb = x at *
  generalize cmpV k bn sb cn sc = y at *
  generalize cmpV k an sa cn sc = z at *
  generalize cmpV k bn sb an sa = x' at *
  obtain ⟨o1, o2, rfl, o4, o5, o6⟩ := O
  have H4 := Lib.hid o4
  have H5 := Lib.hid o5
  have H6 := Lib.hid o6
  clear o4 o5 o6
  rcases o1 with rfl | rfl | rfl
  · skip
    have hne : ¬ (an = bn ∧ sa = sb) := fun h => by have := o2.2 h; omega
    clear o2
    rcases ne_split hne with hq | ⟨rfl, hq⟩
    · clear hne
      go_wp2_with fail
      refine hcmp.mono ?_
      rintro e w8 ⟨rfl, hb8⟩
      have hw8 := Below.then tr7.2.2.2 hb8
      clear hb8 hcmp p0 p1 p2 p3 tr7
      rcases oy with rfl | rfl | rfl <;> rcases oz with rfl | rfl | rfl <;>
        first
        | (exfalso; have := H4.out; have := H5.out; have := H6.out; omega)
        | (clear H4 H5 H6; go_wp2_with fail; go_ret; exact ⟨rfl, hw8⟩)
    · clear hne
      go_wp2_with fail
      refine hcmp.mono ?_
      rintro e w8 ⟨rfl, hb8⟩
      have hw8 := Below.then tr7.2.2.2 hb8
      clear hb8 hcmp p0 p1 p2 p3 tr7
      rcases oy with rfl | rfl | rfl <;> rcases oz with rfl | rfl | rfl <;>
        first
        | (exfalso; have := H4.out; have := H5.out; have := H6.out; omega)
        | (clear H4 H5 H6; go_wp2_with fail; go_ret; exact ⟨rfl, hw8⟩)
  · obtain ⟨rfl, rfl⟩ := o2.1 rfl
    obtain rfl := H6.out rfl
    clear o2 oz H4 H5 H6
    go_wp2_with fail
    refine hcmp.mono ?_
    rintro e w8 ⟨rfl, hb8⟩
    have hw8 := Below.then tr7.2.2.2 hb8
    clear hb8 hcmp p0 p1 p2 p3 tr7
    rcases oy with rfl | rfl | rfl <;> (go_wp2_with fail; go_ret; exact ⟨rfl, hw8⟩)
  · skip
    have hne : ¬ (an = bn ∧ sa = sb) := fun h => by have := o2.2 h; omega
    clear o2
    rcases ne_split hne with hq | ⟨rfl, hq⟩
    · clear hne
      go_wp2_with fail
      refine hcmp.mono ?_
      rintro e w8 ⟨rfl, hb8⟩
      have hw8 := Below.then tr7.2.2.2 hb8
      clear hb8 hcmp p0 p1 p2 p3 tr7
      rcases oy with rfl | rfl | rfl <;> rcases oz with rfl | rfl | rfl <;>
        first
        | (exfalso; have := H4.out; have := H5.out; have := H6.out; omega)
        | (clear H4 H5 H6; go_wp2_with fail; go_ret; exact ⟨rfl, hw8⟩)
    · clear hne
      go_wp2_with fail
      refine hcmp.mono ?_
      rintro e w8 ⟨rfl, hb8⟩
      have hw8 := Below.then tr7.2.2.2 hb8
      clear hb8 hcmp p0 p1 p2 p3 tr7
      rcases oy with rfl | rfl | rfl <;> rcases oz with rfl | rfl | rfl <;>
        first
        | (exfalso; have := H4.out; have := H5.out; have := H6.out; omega)
        | (clear H4 H5 H6; go_wp2_with fail; go_ret; exact ⟨rfl, hw8⟩)
end Go.Proofs.YtoebghfjpkkegaaDoor
