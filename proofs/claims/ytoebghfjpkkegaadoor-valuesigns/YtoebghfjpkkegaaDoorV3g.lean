/- ValueSigns: the walk. -/
import Derived.Test.YtoebghfjpkkegaaDoorV3f
import Derived.Deep.DeepCutAuto
namespace Go.Proofs.YtoebghfjpkkegaaDoor
open Go.ChangeShapes Go.WideShapes Go.ChangeAt Go.RowKit
set_option linter.unusedVariables false

theorem less_cmp : ∀ (a b : List UInt8), Op.bytesLess a b = decide (Lib.compareBytes a b < 0)
  | [], [] => by simp [Op.bytesLess, Lib.compareBytes]
  | _ :: _, [] => by simp [Op.bytesLess, Lib.compareBytes]
  | [], _ :: _ => by simp [Op.bytesLess, Lib.compareBytes]
  | a :: l, b :: r => by
    rw [Op.bytesLess, Lib.compareBytes, less_cmp l r]
    by_cases c1 : a < b
    · simp [c1]
    · by_cases c2 : b < a
      · have h : (a == b) = false := by
          simp only [beq_eq_false_iff_ne, ne_eq]
          intro h; subst h; exact c1 c2
        simp [c1, c2, h]
      · have h : a = b := by
          rw [UInt8.lt_iff_toNat_lt] at c1 c2
          exact UInt8.toNat_inj.1 (by omega)
        subst h
        simp [c1]
theorem cmp_longer (p : ByteArray) : Lib.compareBytes p.data.toList (p ++ { data := #[0] }).data.toList = -1 := by
  have h : (p ++ ({ data := #[0] } : ByteArray)).data.toList = p.data.toList ++ [0] := Joins.data_append p { data := #[0] }
  rw [h]
  generalize p.data.toList = l
  induction l with
  | nil => rfl
  | cons a l ih => rw [List.cons_append, Lib.compareBytes, ih]; simp
theorem longer_size (p : ByteArray) : (p ++ ({ data := #[0] } : ByteArray)).size = p.size + 1 := by
  rw [ByteArray.size_append]; rfl
theorem cmpV_1 (n m : Int) : cmpV 1 n ⟨#[]⟩ m ⟨#[]⟩ = cmpI n m := by rw [cmpV_is (by rw [fits_num (.inl rfl), fits_num (.inl rfl)]; rfl), if_pos rfl]
theorem cmpV_2 (n m : Int) : cmpV 2 n ⟨#[]⟩ m ⟨#[]⟩ = cmpI (IntKind.u64.wrap n) (IntKind.u64.wrap m) := by rw [cmpV_is (by rw [fits_num (.inr rfl), fits_num (.inr rfl)]; rfl), if_neg (by decide), if_pos rfl]
theorem cmpV_3 {p q : ByteArray} (hp : p.size ≤ 60) (hq : q.size ≤ 60) : cmpV 3 0 p 0 q = Lib.compareBytes p.data.toList q.data.toList := by
  rw [cmpV_is (by simp [fitsB]; omega), if_neg (by decide), if_neg (by decide)]
/-- numbers in the two orders -/
theorem signs {n0 n1 : Int} (r0 : -9223372036854775808 ≤ n0 ∧ n0 ≤ 9223372036854775807) (r1 : -9223372036854775808 ≤ n1 ∧ n1 ≤ 9223372036854775807) :
    (cmpI n0 n1 = -1 ∧ n0 < n1 ∨ cmpI n0 n1 = 0 ∧ n0 = n1 ∨ cmpI n0 n1 = 1 ∧ n1 < n0) ∧
    ((n0 < 0 ↔ n1 < 0) → cmpI (IntKind.u64.wrap n0) (IntKind.u64.wrap n1) = cmpI n0 n1) ∧ (¬ (n0 < 0 ↔ n1 < 0) → cmpI (IntKind.u64.wrap n0) (IntKind.u64.wrap n1) = - cmpI n0 n1) := by
  simp only [cmpI, IntKind.wrap_u64]
  refine ⟨?_, ?_, ?_⟩
  · (repeat' split) <;> omega
  · intro h; (repeat' split) <;> omega
  · intro h; (repeat' split) <;> omega
theorem k1 (n : Int) : fitsB 1 n ⟨#[]⟩ = true := fits_num (.inl rfl)
theorem k2 (n : Int) : fitsB 2 n ⟨#[]⟩ = true := fits_num (.inr rfl)
theorem texts_same {n : Int} (h0 : 0 ≤ n) (h1 : n ≤ 9223372036854775807) : textL 2 n ⟨#[]⟩ = textL 1 n ⟨#[]⟩ := by
  rw [textL_is (k2 n), textL_is (k1 n), if_neg (show ¬ ((2 : Int) = 1) by decide), if_pos rfl, if_pos rfl, intS, if_neg (by omega), show IntKind.u64.wrap n = n from by rw [IntKind.wrap_u64]; omega]
theorem texts_other {n : Int} (h0 : n < 0) : textL 1 n ⟨#[]⟩ ≠ textL 2 n ⟨#[]⟩ := by
  rw [textL_is (k2 n), textL_is (k1 n), if_pos rfl, if_neg (show ¬ ((2 : Int) = 1) by decide), if_pos rfl, intS, if_pos h0]
  intro h
  have hb := digits_bytes (IntKind.u64.wrap n).toNat 45 (by rw [← h]; exact List.mem_cons_self ..)
  omega
def Sg (w W : World) (bl ba : Nat) (n0 : Int) (bp : Nat) (P : ByteArray) (bq : Nat) (Q : ByteArray) (br : Nat) (R : ByteArray) : Prop :=
  W.cell? ⟨bl, 0, none⟩ = some (.int .i64 n0) ∧ Bx W ba n0 ⟨#[]⟩ ∧ Bx W bp 0 P ∧ Bx W bq 0 Q ∧ Bx W br 0 R ∧ Tab W ∧ Below w.heap.size w W
theorem Sg.below {w W W' : World} {bl ba bp bq br : Nat} {n0 : Int} {P Q R : ByteArray} (h : Sg w W bl ba n0 bp P bq Q br R) (hb : Below W.heap.size W W') : Sg w W' bl ba n0 bp P bq Q br R :=
  ⟨keepc h.1 hb, h.2.1.below hb, h.2.2.1.below hb, h.2.2.2.1.below hb, h.2.2.2.2.1.below hb, h.2.2.2.2.2.1.below hb, Below.then h.2.2.2.2.2.2 hb⟩
theorem Sg.drew {w W : World} {bl ba bp bq br : Nat} {n0 : Int} {P Q R : ByteArray} (h : Sg w W bl ba n0 bp P bq Q br R) : Sg w W.drew bl ba n0 bp P bq Q br R :=
  h.below (Below.refl _ _).drew
theorem min_is (a : Nat) (W : World) : (Builtin.min_ #[3, 3] 3 #[.int .i64 (a : Int), .int .i64 59]).run Tryd.prog W = .ok (.int .i64 ((min a 59 : Nat) : Int)) W := by
  rw [run_min_int2]
  have : (if (59 : Int) < (a : Int) then (59 : Int) else (a : Int)) = ((min a 59 : Nat) : Int) := by split <;> omega
  rw [this]
theorem slice_cut (s : ByteArray) (W : World) : (Instr.slice 9 (.string s) none (some (.int .i64 ((min s.size 59 : Nat) : Int))) none).run Tryd.prog W = .ok (.string (cut 59 s)) W := by
  by_cases h : s.size ≤ 59
  · rw [cut_all h, Nat.min_eq_left h]
    go_simp
  · rw [cut_part h, Nat.min_eq_right (by omega)]
    have : (59 : Int) ≤ s.size := by omega
    go_simp
set_option maxRecDepth 20000 in
set_option maxHeartbeats 4000000 in
theorem valueSigns_walk (n0 n1 : Int) (s t : ByteArray) (w : World) (r0 : -9223372036854775808 ≤ n0 ∧ n0 ≤ 9223372036854775807) (r1 : -9223372036854775808 ≤ n1 ∧ n1 ≤ 9223372036854775807) (htab : Tab w) :
    Calls Tryd.prog 7 #[.agg #[.int .i64 n0, .int .i64 n1], .string s, .string t] w fun e w' => e = .returned (.bool true) ∧ Below w.heap.size w w' := by
  go_enter Tryd.func7, Tryd.ntmps7
  go_wp2_with fail
  refine (shown3_is _ (htab.alloc _)).mono ?_
  rintro e w1 ⟨rfl, hb1⟩
  have c0 := ar_cell hb1 0 (v := .int .i64 n0) rfl
  have c1 := ar_cell hb1 1 (v := .int .i64 n1) rfl
  have t1 := (htab.alloc _).below hb1
  have hw1 := after1 hb1
  clear hb1 htab
  have d0 := keepo c0
  have d1 := keepo c1
  go_wp2_with fail
  refine (compare_any 1 n0 n1 ⟨#[]⟩ ⟨#[]⟩ _).mono ?_
  rintro e w2 ⟨rfl, hb2⟩
  have hs1 : (w1.alloc (.cells #[.int .i64 n0, .string ⟨#[]⟩] 23)).heap.size = w1.heap.size + 1 := by simp
  have xa := ((Bx.new w1 n0 ⟨#[]⟩ 23).alloc (.cells #[.int .i64 n1, .string ⟨#[]⟩] 23)).below hb2
  have xb := (Bx.new (w1.alloc (.cells #[.int .i64 n0, .string ⟨#[]⟩] 23)) n1 ⟨#[]⟩ 23).below hb2
  rw [hs1] at xb
  have e0 := keepc (cell_alloc _ (.cells #[.int .i64 n1, .string ⟨#[]⟩] 23) (cell_alloc w1 (.cells #[.int .i64 n0, .string ⟨#[]⟩] 23) c0)) hb2
  have e1 := keepc (cell_alloc _ (.cells #[.int .i64 n1, .string ⟨#[]⟩] 23) (cell_alloc w1 (.cells #[.int .i64 n0, .string ⟨#[]⟩] 23) c1)) hb2
  have t2 := ((t1.alloc _).alloc _).below hb2
  have hw2 := Below.then hw1 (after2 hb2)
  clear c0 c1 d0 d1 t1 hw1 hb2 hs1
  generalize w1.heap.size + 1 = bb at *
  generalize w1.heap.size = ba at *
  obtain ⟨p0, p1⟩ := id xa
  obtain ⟨p2, p3⟩ := id xb
  go_wp2_with fail
  refine (compare_any 2 n0 n1 ⟨#[]⟩ ⟨#[]⟩ _).mono ?_
  rintro e w3 ⟨rfl, hb3⟩
  have ya := xa.below hb3
  have c0 := keepc e0 hb3
  have c1 := keepc e1 hb3
  have t3 := t2.below hb3
  have hw3 := Below.then hw2 hb3
  clear p0 p1 p2 p3 xa xb e0 e1 t2 hw2 hb3
  have SG := signs r0 r1
  rw [← cmpV_1, ← cmpV_2] at SG
  generalize cmpV 1 n0 ⟨#[]⟩ n1 ⟨#[]⟩ = x at *
  generalize cmpV 2 n0 ⟨#[]⟩ n1 ⟨#[]⟩ = y at *
  go_upto_region 6 with fail
  go_cut [64] (fun v wx => v = .bool false ∧ wx = w3)
  case first =>
    obtain ⟨S1, S2, S3⟩ := SG
    have H1 := Lib.hid S1
    have H2 := Lib.hid S2
    have H3 := Lib.hid S3
    clear S1 S2 S3 t3 ya
    by_cases a0 : n0 < 0 <;> by_cases a1 : n1 < 0
    · obtain rfl := H2.out (by omega)
      rcases H1.out with ⟨rfl, l1⟩ | ⟨rfl, rfl⟩ | ⟨rfl, l1⟩ <;> (clear H1 H2 H3; (try have l2 : ¬ n0 < n1 := by omega); go_wp2_with fail; go_meet; exact ⟨rfl, rfl⟩)
    · obtain rfl := H3.out (by omega)
      have l1 : n0 < n1 := by omega
      obtain rfl : x = -1 := by have := H1.out; omega
      clear H1 H2 H3
      go_wp2_with fail
      go_meet
      exact ⟨rfl, rfl⟩
    · obtain rfl := H3.out (by omega)
      have l1 : ¬ n0 < n1 := by omega
      obtain rfl : x = 1 := by have := H1.out; omega
      clear H1 H2 H3
      go_wp2_with fail
      go_meet
      exact ⟨rfl, rfl⟩
    · obtain rfl := H2.out (by omega)
      rcases H1.out with ⟨rfl, l1⟩ | ⟨rfl, rfl⟩ | ⟨rfl, l1⟩ <;> (clear H1 H2 H3; (try have l2 : ¬ n0 < n1 := by omega); go_wp2_with fail; go_meet; exact ⟨rfl, rfl⟩)
  case rest =>
    obtain ⟨rfl, rfl⟩ := hcut
    clear SG
    have hp := cut_size 59 s
    have hq := cut_size 59 t
    have hm1 := min_is s.size
    have hm2 := min_is t.size
    have hc1 := slice_cut s
    have hc2 := slice_cut t
    generalize min s.size 59 = ms at *
    generalize min t.size 59 = mt at *
    generalize cut 59 s = P at *
    generalize cut 59 t = Q at *
    have hR : cmpV 3 0 P 0 (P ++ { data := #[0] }) = -1 := by
      rw [cmpV_3 (by omega) (by rw [longer_size]; omega)]; exact cmp_longer P
    have hless : Op.bytesLess P.toList Q.toList = decide (cmpV 3 0 P 0 Q < 0) := by
      rw [less_cmp, ByteArray.toList_eq, ByteArray.toList_eq, cmpV_3 (by omega) (by omega)]
    have hl1 : (wc.alloc (.cells #[.int .i64 0, .string P] 23)).heap.size = wc.heap.size + 1 := by simp
    have hl2 : ((wc.alloc (.cells #[.int .i64 0, .string P] 23)).alloc (.cells #[.int .i64 0, .string Q] 23)).heap.size = wc.heap.size + 1 + 1 := by simp
    have sg : Sg w (((wc.alloc (.cells #[.int .i64 0, .string P] 23)).alloc (.cells #[.int .i64 0, .string Q] 23)).alloc (.cells #[.int .i64 0, .string (P ++ { data := #[0] })] 23)) w.heap.size ba n0 wc.heap.size P (wc.heap.size + 1) Q (wc.heap.size + 1 + 1) (P ++ { data := #[0] }) := by
      refine ⟨cell_alloc _ _ (cell_alloc _ _ (cell_alloc _ _ c0)), ((ya.alloc _).alloc _).alloc _, ((Bx.new wc 0 P 23).alloc _).alloc _, ?_, ?_, ((t3.alloc _).alloc _).alloc _, Below.then hw3 (Joins.below_alloc3 _ _ _ _)⟩
      · have h := Bx.new (wc.alloc (.cells #[.int .i64 0, .string P] 23)) 0 Q 23
        rw [hl1] at h
        exact h.alloc _
      · have h := Bx.new ((wc.alloc (.cells #[.int .i64 0, .string P] 23)).alloc (.cells #[.int .i64 0, .string Q] 23)) 0 (P ++ { data := #[0] }) 23
        rw [hl2] at h
        exact h
    clear hl1 hl2
    by_cases hn : n0 < 0
    · have hdec : decide (0 ≤ n0) = false := by simp; omega
      have hne : ((strOfNums (textL 1 n0 ⟨#[]⟩)).toList == (strOfNums (textL 2 n0 ⟨#[]⟩)).toList) = false := by
        cases hb : ((strOfNums (textL 1 n0 ⟨#[]⟩)).toList == (strOfNums (textL 2 n0 ⟨#[]⟩)).toList)
        · rfl
        · have h := toList_inj (beq_iff_eq.1 hb)
          have hb1 : ∀ z ∈ textL 1 n0 ⟨#[]⟩, 0 ≤ z ∧ z ≤ 255 := by
            rw [textL_is (k1 n0), if_pos rfl, intS, if_pos hn]
            intro z hz
            rcases List.mem_cons.1 hz with rfl | hz
            · omega
            · have := digits_bytes _ z hz; omega
          have hb2 : ∀ z ∈ textL 2 n0 ⟨#[]⟩, 0 ≤ z ∧ z ≤ 255 := by
            rw [textL_is (k2 n0), if_neg (by decide), if_pos rfl]
            intro z hz
            have := digits_bytes _ z hz; omega
          exact absurd (strOfNums_inj hb1 hb2 h) (texts_other hn)
      go_wp2_with fail
      generalize (((wc.alloc (.cells #[.int .i64 0, .string P] 23)).alloc (.cells #[.int .i64 0, .string Q] 23)).alloc (.cells #[.int .i64 0, .string (P ++ { data := #[0] })] 23)) = W at *
      generalize P ++ ({ data := #[0] } : ByteArray) = R at *
      generalize wc.heap.size + 1 + 1 = br at *
      generalize wc.heap.size + 1 = bq at *
      generalize wc.heap.size = bp at *
      clear ya c0 c1 t3 hw3 hm1 hm2 hc1 hc2
      refine wp_region_noPanic ?_
      refine wp_region_held_drew (S := fun W => Sg w W w.heap.size ba n0 bp P bq Q br R) (by kernel_rfl) (sg.drew) (fun hS => ?_)
      refine take_at (i := 0) (v := ?_) (some 81) rfl (by kernel_rfl) (by kernel_rfl) (by kernel_rfl) rfl (fun _ _ _ h => h) (Or.inl ⟨by rfl, ?_⟩) hS ?_
      rotate_left
      · (intro wq hq; go_simp); first | done | with_reducible rfl
      try simp only [Act.put, List.setIfInBounds_toArray, List.set_cons_zero, List.set_cons_succ]
      refine take_at (i := 1) (v := ?_) (some 82) rfl (by kernel_rfl) (by kernel_rfl) (by kernel_rfl) rfl (fun _ _ _ h => h) (Or.inl ⟨by rfl, ?_⟩) hS ?_
      rotate_left
      · (intro wq hq; go_simp); first | done | with_reducible rfl
      try simp only [Act.put, List.setIfInBounds_toArray, List.set_cons_zero, List.set_cons_succ]
      refine take_at (i := 2) (v := ?_) (some 83) rfl (by kernel_rfl) (by kernel_rfl) (by kernel_rfl) rfl (fun _ _ _ h => h) (Or.inl ⟨by rfl, ?_⟩) hS ?_
      rotate_left
      · (intro wq hq; obtain ⟨p0, p1⟩ := hq.2.1; go_simp); first | done | with_reducible rfl
      try simp only [Act.put, List.setIfInBounds_toArray, List.set_cons_zero, List.set_cons_succ]
      refine take_at (i := 4) (v := ?_) (some 85) rfl (by kernel_rfl) (by kernel_rfl) (by kernel_rfl) rfl (fun _ _ _ h => h) (Or.inl ⟨by rfl, ?_⟩) hS ?_
      rotate_left
      · (intro wq hq; obtain ⟨p0, p1⟩ := hq.2.1; go_simp); first | done | with_reducible rfl
      try simp only [Act.put, List.setIfInBounds_toArray, List.set_cons_zero, List.set_cons_succ]
      refine take_at (i := 7) (v := ?_) (some 88) rfl (by kernel_rfl) (by kernel_rfl) (by kernel_rfl) rfl (fun _ _ _ h => h) (Or.inl ⟨by rfl, ?_⟩) hS ?_
      rotate_left
      · (intro wq hq; go_simp); first | done | with_reducible rfl
      try simp only [Act.put, List.setIfInBounds_toArray, List.set_cons_zero, List.set_cons_succ]
      refine take_at (i := 8) (v := ?_) (some 89) rfl (by kernel_rfl) (by kernel_rfl) (by kernel_rfl) rfl (fun _ _ _ h => h) (Or.inl ⟨by rfl, ?_⟩) hS ?_
      rotate_left
      · (intro wq hq; have p0 := hq.1; go_simp); first | done | with_reducible rfl
      try simp only [Act.put, List.setIfInBounds_toArray, List.set_cons_zero, List.set_cons_succ]
      refine take_at (i := 9) (v := ?_) (some 90) rfl (by kernel_rfl) (by kernel_rfl) (by kernel_rfl) rfl (fun _ _ _ h => h) (Or.inl ⟨by rfl, ?_⟩) hS ?_
      rotate_left
      · (intro wq hq; go_simp); first | done | with_reducible rfl
      try simp only [Act.put, List.setIfInBounds_toArray, List.set_cons_zero, List.set_cons_succ]
      refine wpAnyH_ready (rs := [3]) (by kernel_rfl) (by simp) ?_
      refine AllReadyH.cons rfl (fun K hK => ?_) AllReadyH.nil
      go_simp
      refine (text_any 1 n0 ⟨#[]⟩ _ r0.1 r0.2 sg.drew.2.2.2.2.2.1).mono ?_
      rintro e w4 ⟨rfl, hb4⟩
      have sg4 := sg.drew.below hb4
      refine hK.out _ _ (sg4) (fun hS0 => ?_)
      clear hK K
      try simp only [Act.put, List.setIfInBounds_toArray, List.set_cons_zero, List.set_cons_succ]
      clear hS
      have hS := hS0
      clear hS0
      refine wpAnyH_ready (rs := [5]) (by kernel_rfl) (by simp) ?_
      refine AllReadyH.cons rfl (fun K hK => ?_) AllReadyH.nil
      go_simp
      refine (text_any 2 n0 ⟨#[]⟩ _ r0.1 r0.2 sg4.2.2.2.2.2.1).mono ?_
      rintro e w5 ⟨rfl, hb5⟩
      have sg5 := sg4.below hb5
      refine hK.out _ _ (sg5) (fun hS0 => ?_)
      clear hK K
      try simp only [Act.put, List.setIfInBounds_toArray, List.set_cons_zero, List.set_cons_succ]
      clear hS
      have hS := hS0
      clear hS0
      refine take_at (i := 6) (v := ?_) (some 87) rfl (by kernel_rfl) (by kernel_rfl) (by kernel_rfl) rfl (fun _ _ _ h => h) (Or.inl ⟨by rfl, ?_⟩) hS ?_
      rotate_left
      · (intro wq hq; go_simp); first | done | with_reducible rfl
      try simp only [Act.put, List.setIfInBounds_toArray, List.set_cons_zero, List.set_cons_succ]
      refine take_at (i := 10) (v := ?_) (some 91) rfl (by kernel_rfl) (by kernel_rfl) (by kernel_rfl) rfl (fun _ _ _ h => h) (Or.inl ⟨by rfl, ?_⟩) hS ?_
      rotate_left
      · (intro wq hq; go_simp); first | done | with_reducible rfl
      try simp only [Act.put, List.setIfInBounds_toArray, List.set_cons_zero, List.set_cons_succ]
      refine take_at (i := 11) (v := ?_) (some 92) rfl (by kernel_rfl) (by kernel_rfl) (by kernel_rfl) rfl (fun _ _ _ h => h) (Or.inl ⟨by rfl, ?_⟩) hS ?_
      rotate_left
      · (intro wq hq; go_simp); first | done | with_reducible rfl
      try simp only [Act.put, List.setIfInBounds_toArray, List.set_cons_zero, List.set_cons_succ]
      refine take_at (i := 12) (v := ?_) (some 93) rfl (by kernel_rfl) (by kernel_rfl) (by kernel_rfl) rfl (fun _ _ _ h => h) (Or.inl ⟨by rfl, ?_⟩) hS ?_
      rotate_left
      · (intro wq hq; go_simp); first | done | with_reducible rfl
      try simp only [Act.put, List.setIfInBounds_toArray, List.set_cons_zero, List.set_cons_succ]
      refine take_at (i := 13) (v := ?_) (some 94) rfl (by kernel_rfl) (by kernel_rfl) (by kernel_rfl) rfl (fun _ _ _ h => h) (Or.inl ⟨by rfl, ?_⟩) hS ?_
      rotate_left
      · (intro wq hq; obtain ⟨p0, p1⟩ := hq.2.2.1; go_simp); first | done | with_reducible rfl
      try simp only [Act.put, List.setIfInBounds_toArray, List.set_cons_zero, List.set_cons_succ]
      refine take_at (i := 14) (v := ?_) (some 95) rfl (by kernel_rfl) (by kernel_rfl) (by kernel_rfl) rfl (fun _ _ _ h => h) (Or.inl ⟨by rfl, ?_⟩) hS ?_
      rotate_left
      · (intro wq hq; obtain ⟨p0, p1⟩ := hq.2.2.2.1; go_simp); first | done | with_reducible rfl
      try simp only [Act.put, List.setIfInBounds_toArray, List.set_cons_zero, List.set_cons_succ]
      refine take_at (i := 17) (v := ?_) (some 98) rfl (by kernel_rfl) (by kernel_rfl) (by kernel_rfl) rfl (fun _ _ _ h => h) (Or.inl ⟨by rfl, ?_⟩) hS ?_
      rotate_left
      · (intro wq hq; go_simp); first | done | with_reducible rfl
      try simp only [Act.put, List.setIfInBounds_toArray, List.set_cons_zero, List.set_cons_succ]
      refine take_at (i := 18) (v := ?_) (some 99) rfl (by kernel_rfl) (by kernel_rfl) (by kernel_rfl) rfl (fun _ _ _ h => h) (Or.inl ⟨by rfl, ?_⟩) hS ?_
      rotate_left
      · (intro wq hq; obtain ⟨p0, p1⟩ := hq.2.2.1; go_simp); first | done | with_reducible rfl
      try simp only [Act.put, List.setIfInBounds_toArray, List.set_cons_zero, List.set_cons_succ]
      refine take_at (i := 19) (v := ?_) (some 100) rfl (by kernel_rfl) (by kernel_rfl) (by kernel_rfl) rfl (fun _ _ _ h => h) (Or.inl ⟨by rfl, ?_⟩) hS ?_
      rotate_left
      · (intro wq hq; go_simp); first | done | with_reducible rfl
      try simp only [Act.put, List.setIfInBounds_toArray, List.set_cons_zero, List.set_cons_succ]
      refine take_at (i := 20) (v := ?_) (some 101) rfl (by kernel_rfl) (by kernel_rfl) (by kernel_rfl) rfl (fun _ _ _ h => h) (Or.inl ⟨by rfl, ?_⟩) hS ?_
      rotate_left
      · (intro wq hq; obtain ⟨p0, p1⟩ := hq.2.2.2.1; go_simp); first | done | with_reducible rfl
      try simp only [Act.put, List.setIfInBounds_toArray, List.set_cons_zero, List.set_cons_succ]
      refine take_at (i := 21) (v := ?_) (some 102) rfl (by kernel_rfl) (by kernel_rfl) (by kernel_rfl) rfl (fun _ _ _ h => h) (Or.inl ⟨by rfl, ?_⟩) hS ?_
      rotate_left
      · (intro wq hq; go_simp); first | done | with_reducible rfl
      try simp only [Act.put, List.setIfInBounds_toArray, List.set_cons_zero, List.set_cons_succ]
      refine wpAnyH_ready (rs := [15]) (by kernel_rfl) (by simp) ?_
      refine AllReadyH.cons rfl (fun K hK => ?_) AllReadyH.nil
      go_simp
      refine (compare_any 3 0 0 P Q _).mono ?_
      rintro e w6 ⟨rfl, hb6⟩
      have sg6 := sg5.below hb6
      refine hK.out _ _ (sg6) (fun hS0 => ?_)
      clear hK K
      try simp only [Act.put, List.setIfInBounds_toArray, List.set_cons_zero, List.set_cons_succ]
      clear hS
      have hS := hS0
      clear hS0
      refine take_at (i := 16) (v := ?_) (some 97) rfl (by kernel_rfl) (by kernel_rfl) (by kernel_rfl) rfl (fun _ _ _ h => h) (Or.inl ⟨by rfl, ?_⟩) hS ?_
      rotate_left
      · (intro wq hq; go_simp); first | done | with_reducible rfl
      try simp only [Act.put, List.setIfInBounds_toArray, List.set_cons_zero, List.set_cons_succ]
      refine take_at (i := 22) (v := ?_) (some 103) rfl (by kernel_rfl) (by kernel_rfl) (by kernel_rfl) rfl (fun _ _ _ h => h) (Or.inl ⟨by rfl, ?_⟩) hS ?_
      rotate_left
      · (intro wq hq; go_simp); first | done | with_reducible rfl
      try simp only [Act.put, List.setIfInBounds_toArray, List.set_cons_zero, List.set_cons_succ]
      refine take_at (i := 23) (v := ?_) (some 104) rfl (by kernel_rfl) (by kernel_rfl) (by kernel_rfl) rfl (fun _ _ _ h => h) (Or.inl ⟨by rfl, ?_⟩) hS ?_
      rotate_left
      · (intro wq hq; go_simp); first | done | with_reducible rfl
      try simp only [Act.put, List.setIfInBounds_toArray, List.set_cons_zero, List.set_cons_succ]
      refine take_at (i := 24) (v := ?_) (some 105) rfl (by kernel_rfl) (by kernel_rfl) (by kernel_rfl) rfl (fun _ _ _ h => h) (Or.inl ⟨by rfl, ?_⟩) hS ?_
      rotate_left
      · (intro wq hq; go_simp); first | done | with_reducible rfl
      try simp only [Act.put, List.setIfInBounds_toArray, List.set_cons_zero, List.set_cons_succ]
      refine take_at (i := 25) (v := ?_) (some 106) rfl (by kernel_rfl) (by kernel_rfl) (by kernel_rfl) rfl (fun _ _ _ h => h) (Or.inl ⟨by rfl, ?_⟩) hS ?_
      rotate_left
      · (intro wq hq; obtain ⟨p0, p1⟩ := hq.2.2.1; go_simp); first | done | with_reducible rfl
      try simp only [Act.put, List.setIfInBounds_toArray, List.set_cons_zero, List.set_cons_succ]
      refine take_at (i := 26) (v := ?_) (some 107) rfl (by kernel_rfl) (by kernel_rfl) (by kernel_rfl) rfl (fun _ _ _ h => h) (Or.inl ⟨by rfl, ?_⟩) hS ?_
      rotate_left
      · (intro wq hq; obtain ⟨p0, p1⟩ := hq.2.2.2.2.1; go_simp); first | done | with_reducible rfl
      try simp only [Act.put, List.setIfInBounds_toArray, List.set_cons_zero, List.set_cons_succ]
      refine wpAnyH_ready (rs := [27]) (by kernel_rfl) (by simp) ?_
      refine AllReadyH.cons rfl (fun K hK => ?_) AllReadyH.nil
      go_simp
      refine (compare_any 3 0 0 P R _).mono ?_
      rw [hR]
      rintro e w7 ⟨rfl, hb7⟩
      have sg7 := sg6.below hb7
      refine hK.out _ _ (sg7) (fun hS0 => ?_)
      clear hK K
      try simp only [Act.put, List.setIfInBounds_toArray, List.set_cons_zero, List.set_cons_succ]
      clear hS
      have hS := hS0
      clear hS0
      refine take_at (i := 28) (v := ?_) (some 109) rfl (by kernel_rfl) (by kernel_rfl) (by kernel_rfl) rfl (fun _ _ _ h => h) (Or.inl ⟨by rfl, ?_⟩) hS ?_
      rotate_left
      · (intro wq hq; go_simp); first | done | with_reducible rfl
      try simp only [Act.put, List.setIfInBounds_toArray, List.set_cons_zero, List.set_cons_succ]
      refine take_at (i := 29) (v := ?_) (some 110) rfl (by kernel_rfl) (by kernel_rfl) (by kernel_rfl) rfl (fun _ _ _ h => h) (Or.inl ⟨by rfl, ?_⟩) hS ?_
      rotate_left
      · (intro wq hq; go_simp); first | done | with_reducible rfl
      try simp only [Act.put, List.setIfInBounds_toArray, List.set_cons_zero, List.set_cons_succ]
      refine take_at (i := 30) (v := ?_) (some 6) rfl (by kernel_rfl) (by kernel_rfl) (by kernel_rfl) rfl (fun _ _ _ h => h) (Or.inl ⟨by rfl, ?_⟩) hS ?_
      rotate_left
      · (intro wq hq; go_simp); first | done | with_reducible rfl
      try simp only [Act.put, List.setIfInBounds_toArray, List.set_cons_zero, List.set_cons_succ]
      refine wpAnyH_done (by kernel_rfl) (NoPanic.normal ?_) _
      go_wp2_with fail
      go_ret
      exact ⟨rfl, sg7.2.2.2.2.2.2⟩
    · have hdec : decide (0 ≤ n0) = true := by simp; omega
      have hsame := texts_same (n := n0) (by omega) r0.2
      go_wp2_with fail
      generalize (((wc.alloc (.cells #[.int .i64 0, .string P] 23)).alloc (.cells #[.int .i64 0, .string Q] 23)).alloc (.cells #[.int .i64 0, .string (P ++ { data := #[0] })] 23)) = W at *
      generalize P ++ ({ data := #[0] } : ByteArray) = R at *
      generalize wc.heap.size + 1 + 1 = br at *
      generalize wc.heap.size + 1 = bq at *
      generalize wc.heap.size = bp at *
      clear ya c0 c1 t3 hw3 hm1 hm2 hc1 hc2
      refine wp_region_noPanic ?_
      refine wp_region_held_drew (S := fun W => Sg w W w.heap.size ba n0 bp P bq Q br R) (by kernel_rfl) (sg.drew) (fun hS => ?_)
      refine take_at (i := 0) (v := ?_) (some 81) rfl (by kernel_rfl) (by kernel_rfl) (by kernel_rfl) rfl (fun _ _ _ h => h) (Or.inl ⟨by rfl, ?_⟩) hS ?_
      rotate_left
      · (intro wq hq; go_simp); first | done | with_reducible rfl
      try simp only [Act.put, List.setIfInBounds_toArray, List.set_cons_zero, List.set_cons_succ]
      refine take_at (i := 1) (v := ?_) (some 82) rfl (by kernel_rfl) (by kernel_rfl) (by kernel_rfl) rfl (fun _ _ _ h => h) (Or.inl ⟨by rfl, ?_⟩) hS ?_
      rotate_left
      · (intro wq hq; go_simp); first | done | with_reducible rfl
      try simp only [Act.put, List.setIfInBounds_toArray, List.set_cons_zero, List.set_cons_succ]
      refine take_at (i := 2) (v := ?_) (some 83) rfl (by kernel_rfl) (by kernel_rfl) (by kernel_rfl) rfl (fun _ _ _ h => h) (Or.inl ⟨by rfl, ?_⟩) hS ?_
      rotate_left
      · (intro wq hq; obtain ⟨p0, p1⟩ := hq.2.1; go_simp); first | done | with_reducible rfl
      try simp only [Act.put, List.setIfInBounds_toArray, List.set_cons_zero, List.set_cons_succ]
      refine take_at (i := 4) (v := ?_) (some 85) rfl (by kernel_rfl) (by kernel_rfl) (by kernel_rfl) rfl (fun _ _ _ h => h) (Or.inl ⟨by rfl, ?_⟩) hS ?_
      rotate_left
      · (intro wq hq; obtain ⟨p0, p1⟩ := hq.2.1; go_simp); first | done | with_reducible rfl
      try simp only [Act.put, List.setIfInBounds_toArray, List.set_cons_zero, List.set_cons_succ]
      refine take_at (i := 7) (v := ?_) (some 88) rfl (by kernel_rfl) (by kernel_rfl) (by kernel_rfl) rfl (fun _ _ _ h => h) (Or.inl ⟨by rfl, ?_⟩) hS ?_
      rotate_left
      · (intro wq hq; go_simp); first | done | with_reducible rfl
      try simp only [Act.put, List.setIfInBounds_toArray, List.set_cons_zero, List.set_cons_succ]
      refine take_at (i := 8) (v := ?_) (some 89) rfl (by kernel_rfl) (by kernel_rfl) (by kernel_rfl) rfl (fun _ _ _ h => h) (Or.inl ⟨by rfl, ?_⟩) hS ?_
      rotate_left
      · (intro wq hq; have p0 := hq.1; go_simp); first | done | with_reducible rfl
      try simp only [Act.put, List.setIfInBounds_toArray, List.set_cons_zero, List.set_cons_succ]
      refine take_at (i := 9) (v := ?_) (some 90) rfl (by kernel_rfl) (by kernel_rfl) (by kernel_rfl) rfl (fun _ _ _ h => h) (Or.inl ⟨by rfl, ?_⟩) hS ?_
      rotate_left
      · (intro wq hq; go_simp); first | done | with_reducible rfl
      try simp only [Act.put, List.setIfInBounds_toArray, List.set_cons_zero, List.set_cons_succ]
      refine wpAnyH_ready (rs := [3]) (by kernel_rfl) (by simp) ?_
      refine AllReadyH.cons rfl (fun K hK => ?_) AllReadyH.nil
      go_simp
      refine (text_any 1 n0 ⟨#[]⟩ _ r0.1 r0.2 sg.drew.2.2.2.2.2.1).mono ?_
      rintro e w4 ⟨rfl, hb4⟩
      have sg4 := sg.drew.below hb4
      refine hK.out _ _ (sg4) (fun hS0 => ?_)
      clear hK K
      try simp only [Act.put, List.setIfInBounds_toArray, List.set_cons_zero, List.set_cons_succ]
      clear hS
      have hS := hS0
      clear hS0
      refine wpAnyH_ready (rs := [5]) (by kernel_rfl) (by simp) ?_
      refine AllReadyH.cons rfl (fun K hK => ?_) AllReadyH.nil
      go_simp
      refine (text_any 2 n0 ⟨#[]⟩ _ r0.1 r0.2 sg4.2.2.2.2.2.1).mono ?_
      rw [hsame]
      rintro e w5 ⟨rfl, hb5⟩
      have sg5 := sg4.below hb5
      refine hK.out _ _ (sg5) (fun hS0 => ?_)
      clear hK K
      try simp only [Act.put, List.setIfInBounds_toArray, List.set_cons_zero, List.set_cons_succ]
      clear hS
      have hS := hS0
      clear hS0
      refine take_at (i := 6) (v := ?_) (some 87) rfl (by kernel_rfl) (by kernel_rfl) (by kernel_rfl) rfl (fun _ _ _ h => h) (Or.inl ⟨by rfl, ?_⟩) hS ?_
      rotate_left
      · (intro wq hq; go_simp); first | done | with_reducible rfl
      try simp only [Act.put, List.setIfInBounds_toArray, List.set_cons_zero, List.set_cons_succ]
      refine take_at (i := 10) (v := ?_) (some 91) rfl (by kernel_rfl) (by kernel_rfl) (by kernel_rfl) rfl (fun _ _ _ h => h) (Or.inl ⟨by rfl, ?_⟩) hS ?_
      rotate_left
      · (intro wq hq; go_simp); first | done | with_reducible rfl
      try simp only [Act.put, List.setIfInBounds_toArray, List.set_cons_zero, List.set_cons_succ]
      refine take_at (i := 11) (v := ?_) (some 92) rfl (by kernel_rfl) (by kernel_rfl) (by kernel_rfl) rfl (fun _ _ _ h => h) (Or.inl ⟨by rfl, ?_⟩) hS ?_
      rotate_left
      · (intro wq hq; go_simp); first | done | with_reducible rfl
      try simp only [Act.put, List.setIfInBounds_toArray, List.set_cons_zero, List.set_cons_succ]
      refine take_at (i := 12) (v := ?_) (some 93) rfl (by kernel_rfl) (by kernel_rfl) (by kernel_rfl) rfl (fun _ _ _ h => h) (Or.inl ⟨by rfl, ?_⟩) hS ?_
      rotate_left
      · (intro wq hq; go_simp); first | done | with_reducible rfl
      try simp only [Act.put, List.setIfInBounds_toArray, List.set_cons_zero, List.set_cons_succ]
      refine take_at (i := 13) (v := ?_) (some 94) rfl (by kernel_rfl) (by kernel_rfl) (by kernel_rfl) rfl (fun _ _ _ h => h) (Or.inl ⟨by rfl, ?_⟩) hS ?_
      rotate_left
      · (intro wq hq; obtain ⟨p0, p1⟩ := hq.2.2.1; go_simp); first | done | with_reducible rfl
      try simp only [Act.put, List.setIfInBounds_toArray, List.set_cons_zero, List.set_cons_succ]
      refine take_at (i := 14) (v := ?_) (some 95) rfl (by kernel_rfl) (by kernel_rfl) (by kernel_rfl) rfl (fun _ _ _ h => h) (Or.inl ⟨by rfl, ?_⟩) hS ?_
      rotate_left
      · (intro wq hq; obtain ⟨p0, p1⟩ := hq.2.2.2.1; go_simp); first | done | with_reducible rfl
      try simp only [Act.put, List.setIfInBounds_toArray, List.set_cons_zero, List.set_cons_succ]
      refine take_at (i := 17) (v := ?_) (some 98) rfl (by kernel_rfl) (by kernel_rfl) (by kernel_rfl) rfl (fun _ _ _ h => h) (Or.inl ⟨by rfl, ?_⟩) hS ?_
      rotate_left
      · (intro wq hq; go_simp); first | done | with_reducible rfl
      try simp only [Act.put, List.setIfInBounds_toArray, List.set_cons_zero, List.set_cons_succ]
      refine take_at (i := 18) (v := ?_) (some 99) rfl (by kernel_rfl) (by kernel_rfl) (by kernel_rfl) rfl (fun _ _ _ h => h) (Or.inl ⟨by rfl, ?_⟩) hS ?_
      rotate_left
      · (intro wq hq; obtain ⟨p0, p1⟩ := hq.2.2.1; go_simp); first | done | with_reducible rfl
      try simp only [Act.put, List.setIfInBounds_toArray, List.set_cons_zero, List.set_cons_succ]
      refine take_at (i := 19) (v := ?_) (some 100) rfl (by kernel_rfl) (by kernel_rfl) (by kernel_rfl) rfl (fun _ _ _ h => h) (Or.inl ⟨by rfl, ?_⟩) hS ?_
      rotate_left
      · (intro wq hq; go_simp); first | done | with_reducible rfl
      try simp only [Act.put, List.setIfInBounds_toArray, List.set_cons_zero, List.set_cons_succ]
      refine take_at (i := 20) (v := ?_) (some 101) rfl (by kernel_rfl) (by kernel_rfl) (by kernel_rfl) rfl (fun _ _ _ h => h) (Or.inl ⟨by rfl, ?_⟩) hS ?_
      rotate_left
      · (intro wq hq; obtain ⟨p0, p1⟩ := hq.2.2.2.1; go_simp); first | done | with_reducible rfl
      try simp only [Act.put, List.setIfInBounds_toArray, List.set_cons_zero, List.set_cons_succ]
      refine take_at (i := 21) (v := ?_) (some 102) rfl (by kernel_rfl) (by kernel_rfl) (by kernel_rfl) rfl (fun _ _ _ h => h) (Or.inl ⟨by rfl, ?_⟩) hS ?_
      rotate_left
      · (intro wq hq; go_simp); first | done | with_reducible rfl
      try simp only [Act.put, List.setIfInBounds_toArray, List.set_cons_zero, List.set_cons_succ]
      refine wpAnyH_ready (rs := [15]) (by kernel_rfl) (by simp) ?_
      refine AllReadyH.cons rfl (fun K hK => ?_) AllReadyH.nil
      go_simp
      refine (compare_any 3 0 0 P Q _).mono ?_
      rintro e w6 ⟨rfl, hb6⟩
      have sg6 := sg5.below hb6
      refine hK.out _ _ (sg6) (fun hS0 => ?_)
      clear hK K
      try simp only [Act.put, List.setIfInBounds_toArray, List.set_cons_zero, List.set_cons_succ]
      clear hS
      have hS := hS0
      clear hS0
      refine take_at (i := 16) (v := ?_) (some 97) rfl (by kernel_rfl) (by kernel_rfl) (by kernel_rfl) rfl (fun _ _ _ h => h) (Or.inl ⟨by rfl, ?_⟩) hS ?_
      rotate_left
      · (intro wq hq; go_simp); first | done | with_reducible rfl
      try simp only [Act.put, List.setIfInBounds_toArray, List.set_cons_zero, List.set_cons_succ]
      refine take_at (i := 22) (v := ?_) (some 103) rfl (by kernel_rfl) (by kernel_rfl) (by kernel_rfl) rfl (fun _ _ _ h => h) (Or.inl ⟨by rfl, ?_⟩) hS ?_
      rotate_left
      · (intro wq hq; go_simp); first | done | with_reducible rfl
      try simp only [Act.put, List.setIfInBounds_toArray, List.set_cons_zero, List.set_cons_succ]
      refine take_at (i := 23) (v := ?_) (some 104) rfl (by kernel_rfl) (by kernel_rfl) (by kernel_rfl) rfl (fun _ _ _ h => h) (Or.inl ⟨by rfl, ?_⟩) hS ?_
      rotate_left
      · (intro wq hq; go_simp); first | done | with_reducible rfl
      try simp only [Act.put, List.setIfInBounds_toArray, List.set_cons_zero, List.set_cons_succ]
      refine take_at (i := 24) (v := ?_) (some 105) rfl (by kernel_rfl) (by kernel_rfl) (by kernel_rfl) rfl (fun _ _ _ h => h) (Or.inl ⟨by rfl, ?_⟩) hS ?_
      rotate_left
      · (intro wq hq; go_simp); first | done | with_reducible rfl
      try simp only [Act.put, List.setIfInBounds_toArray, List.set_cons_zero, List.set_cons_succ]
      refine take_at (i := 25) (v := ?_) (some 106) rfl (by kernel_rfl) (by kernel_rfl) (by kernel_rfl) rfl (fun _ _ _ h => h) (Or.inl ⟨by rfl, ?_⟩) hS ?_
      rotate_left
      · (intro wq hq; obtain ⟨p0, p1⟩ := hq.2.2.1; go_simp); first | done | with_reducible rfl
      try simp only [Act.put, List.setIfInBounds_toArray, List.set_cons_zero, List.set_cons_succ]
      refine take_at (i := 26) (v := ?_) (some 107) rfl (by kernel_rfl) (by kernel_rfl) (by kernel_rfl) rfl (fun _ _ _ h => h) (Or.inl ⟨by rfl, ?_⟩) hS ?_
      rotate_left
      · (intro wq hq; obtain ⟨p0, p1⟩ := hq.2.2.2.2.1; go_simp); first | done | with_reducible rfl
      try simp only [Act.put, List.setIfInBounds_toArray, List.set_cons_zero, List.set_cons_succ]
      refine wpAnyH_ready (rs := [27]) (by kernel_rfl) (by simp) ?_
      refine AllReadyH.cons rfl (fun K hK => ?_) AllReadyH.nil
      go_simp
      refine (compare_any 3 0 0 P R _).mono ?_
      rw [hR]
      rintro e w7 ⟨rfl, hb7⟩
      have sg7 := sg6.below hb7
      refine hK.out _ _ (sg7) (fun hS0 => ?_)
      clear hK K
      try simp only [Act.put, List.setIfInBounds_toArray, List.set_cons_zero, List.set_cons_succ]
      clear hS
      have hS := hS0
      clear hS0
      refine take_at (i := 28) (v := ?_) (some 109) rfl (by kernel_rfl) (by kernel_rfl) (by kernel_rfl) rfl (fun _ _ _ h => h) (Or.inl ⟨by rfl, ?_⟩) hS ?_
      rotate_left
      · (intro wq hq; go_simp); first | done | with_reducible rfl
      try simp only [Act.put, List.setIfInBounds_toArray, List.set_cons_zero, List.set_cons_succ]
      refine take_at (i := 29) (v := ?_) (some 110) rfl (by kernel_rfl) (by kernel_rfl) (by kernel_rfl) rfl (fun _ _ _ h => h) (Or.inl ⟨by rfl, ?_⟩) hS ?_
      rotate_left
      · (intro wq hq; go_simp); first | done | with_reducible rfl
      try simp only [Act.put, List.setIfInBounds_toArray, List.set_cons_zero, List.set_cons_succ]
      refine take_at (i := 30) (v := ?_) (some 6) rfl (by kernel_rfl) (by kernel_rfl) (by kernel_rfl) rfl (fun _ _ _ h => h) (Or.inl ⟨by rfl, ?_⟩) hS ?_
      rotate_left
      · (intro wq hq; go_simp); first | done | with_reducible rfl
      try simp only [Act.put, List.setIfInBounds_toArray, List.set_cons_zero, List.set_cons_succ]
      refine wpAnyH_done (by kernel_rfl) (NoPanic.normal ?_) _
      go_wp2_with fail
      go_ret
      exact ⟨rfl, sg7.2.2.2.2.2.2⟩
end Go.Proofs.YtoebghfjpkkegaaDoor
