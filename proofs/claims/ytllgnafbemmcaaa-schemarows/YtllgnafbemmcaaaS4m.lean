/- SchemaRows: the walk. -/
import Derived.Test.YtllgnafbemmcaaaS4l
namespace Go.Proofs.Ytllgnafbemmcaaa
open Go.ChangeShapes Go.WideShapes Go.ChangeAt Go.RowKit
set_option linter.unusedVariables false

theorem vcells_set : ∀ (l : List (Int × ByteArray)) (k : Nat) (v : Int × ByteArray), k < l.length → vcells (l.set k v) = ((vcells l).set (k * 2) (.int .i64 v.1)).set (k * 2 + 1) (.string v.2)
  | [], k, v, h => by simp at h
  | x :: l, 0, v, _ => rfl
  | x :: l, k + 1, v, h => by
    rw [List.set_cons_succ, vcells, vcells_set l k v (by simpa using h), show (k + 1) * 2 = k * 2 + 1 + 1 from by omega]
    rfl
theorem fit_row {ts : List Int} {vs : List (Int × ByteArray)} (h : Ty ts) : rowB ts (fitR ts vs) = true := by
  refine rowB_yes _ _ (fitR_len _ _) (fun i hi => ?_)
  rw [fitR_at hi]
  exact fit_fits (h.at hi)
theorem odd_row {ts : List Int} {vs : List (Int × ByteArray)} {k : Nat} (hl : vs.length = ts.length) (hk : k < ts.length) (h : Ty ts) : rowB ts (vs.set k (1, ⟨#[120]⟩)) = false := by
  refine rowB_no (i := k) hk ?_
  have e : (vs.set k (1, ⟨#[120]⟩)).getD k v0 = (1, ⟨#[120]⟩) := by simp [List.getD, show k < vs.length by omega]
  rw [e]
  rcases h.at hk with e | e | e <;> rw [e] <;> first | (simp [fitsB]; done) | (simp [fitsB]; decide)
set_option maxRecDepth 20000 in
set_option maxHeartbeats 4000000 in
theorem rows_is {l0 l1 l2 l3 l4 l5 l6 l7 n keys mode grain : Int} (h : ShW l0 l1 l2 l3 l4 l5 l6 l7 n keys mode grain) (Ra : Option Addr) (na ca : Nat) (va : List (Int × ByteArray)) (nn : Int) (hnn : 0 ≤ nn ∧ nn ≤ 255) (w : World)
    (ha : WV w Ra na va) (hna : na ≤ maxLen) :
    Calls Try.prog 7 #[ShV l0 l1 l2 l3 l4 l5 l6 l7 n keys mode grain, .slice Ra na ca, .int .u8 nn] w fun e w' => e = .returned (.bool true) ∧ Below w.heap.size w w' := by
  have t := Bk.new w (shC l0 l1 l2 l3 l4 l5 l6 l7 n keys mode grain) 43
  go_enter Try.func7, Try.ntmps7
  go_wp2_with fail
  refine (shown4_is _).mono ?_
  rintro e w1 ⟨rfl, hb1⟩
  have t1 := t.below hb1
  have hw1 := after1 hb1
  have ha1 := ha.below hw1
  clear t hb1 ha
  obtain ⟨⟨x0, x1, x2, x3⟩, ⟨x4, x5, x6, x7⟩, ⟨x8, x9, x10, x11⟩⟩ := t1.shape
  go_wp2_with fail
  refine (made_good h _).mono ?_
  rintro e w2 ⟨A, N, C, K, m, g, ts, rfl, hk, hN, ho, hb2⟩
  clear x0 x1 x2 x3 x4 x5 x6 x7 x8 x9 x10 x11 t1
  obtain ⟨A', C', hA, hC1, hC2, hv, -⟩ := ho.sv
  cases hA
  have hkk := Lib.hid (MadeG.keys hk)
  have hty : Hid (Ty ts) := Lib.hid (check_is hk).2.2.2.2.2.2.2.2
  have hlt := Lib.hid (IV.len hv)
  have hx := Sx.new w2 A N C K m g 24
  have ha2 := (ha1.below hb2).alloc (.cells #[.slice A N C, .int .i64 K, .int .i64 m, .int .i64 g] 24)
  have hv2 := hv.alloc (.cells #[.slice A N C, .int .i64 K, .int .i64 m, .int .i64 g] 24)
  have hw2 := (Below.then hw1 hb2).alloc (by have := (Below.then hw1 hb2).size; omega) (.cells #[.slice A N C, .int .i64 K, .int .i64 m, .int .i64 g] 24)
  clear ho hv ha1 hb2 hw1
  obtain ⟨c0, c1, c2, c3⟩ := id hx
  go_wp2_with fail
  clear c0 c1 c2 c3
  generalize w2.alloc (.cells #[.slice A N C, .int .i64 K, .int .i64 m, .int .i64 g] 24) = w3 at *
  generalize w2.heap.size = b6 at *
  refine (rfit_any A N C ts K m g Ra na ca va _ hv2 (by omega) ha2 hna).mono ?_
  rintro e w4 ⟨a0, s0, rfl, o0, hb4⟩
  obtain ⟨_, _, hA, hp0, hs0, vr, -⟩ := o0.sv
  cases hA
  replace hx := hx.below hb4
  replace hv2 := hv2.below hb4
  replace hw2 := Below.then hw2 hb4
  clear o0 hb4 ha2
  have hN1 : N ≤ maxLen := few_max (by omega)
  have hN0 : 1 ≤ N := by have := hkk.out; have := hlt.out; omega
  have R1 := Lib.hid (fit_row (vs := va) hty.out)
  have hlr : (fitR ts va).length = N := by rw [fitR_len, hlt.out]
  have HLR := Lib.hid hlr
  obtain ⟨kk, hkq, hkN⟩ : ∃ kk : Nat, nn % (N : Int) = (kk : Int) ∧ kk < N := ⟨(nn % (N : Int)).toNat, by rw [Int.toNat_of_nonneg (Int.emod_nonneg _ (by omega))], by have := Int.emod_lt_of_pos nn (show (0 : Int) < (N : Int) by omega); have := Int.emod_nonneg nn (show (N : Int) ≠ 0 by omega); omega⟩
  have R3 := Lib.hid (rowB_odd (ts := ts) (vs := fitR ts va ++ [v0]) (by rw [List.length_append, fitR_len]; simp))
  have R4 := Lib.hid (rowB_odd (ts := ts) (vs := (fitR ts va).take (N - 1)) (by rw [List.length_take, fitR_len, hlt.out]; omega))
  have R2 := Lib.hid (odd_row (vs := fitR ts va) (k := kk) (fitR_len _ _) (by rw [hlt.out]; exact hkN) hty.out)
  clear hlr
  generalize fitR ts va = ra at *
  have hNi : (1 : Int) ≤ (N : Int) := by omega
  have at1 := (vcells_at ra kk)
  rw [Nat.mul_comm 2 kk, List.getElem?_eq_getElem (l := ra) (i := kk) (by rw [HLR.out]; exact hkN)] at at1
  have AT := Lib.hid at1
  have hkNi : (kk : Int) < (N : Int) := by omega
  clear at1
  go_wp2_with (refine append_new el_row rfl (.tmp 27) (.tmp 28) rfl _ rfl a0 N s0 (vcells ra) rfl (vr.alloc _) hN0 (by omega) (by omega) ?_; intro v5 w5 ho5 hb5; obtain ⟨g5, c5, rfl, hg5, hc5, hm5, cell5, free5, set5⟩ := ho5.own hN0; have e1 := cell5 _ _ AT.out.1; have e2 := cell5 _ _ AT.out.2; have f1 := free5 (kk * 2); have f2 := free5 (kk * 2 + 1); clear cell5 free5; have hb5w : Below w4.heap.size w4 w5 := ((Below.refl _ _).alloc (Nat.le_refl _) _).trans (hb5.mono (by simp)); have hg5' : w4.heap.size ≤ g5 := (by rw [heap_alloc] at hg5; omega); obtain ⟨c0, c1, c2, c3⟩ := hx.below hb5w; have hb6g : b6 < g5 := (by have := hx.lt; omega); (try rw [hkq]))
  clear c0 c1 c2 c3
  have ho6 := set5 (kk * 2) (.int .i64 1) (by omega) rfl
  obtain ⟨_, _, hA, -, -, -, -, -, set6⟩ := ho6.own hN0
  cases hA
  have ho7 := set6 (kk * 2 + 1) (.string ⟨#[120]⟩) (by omega) rfl
  rw [← vcells_set ra kk (1, ⟨#[120]⟩) (by rw [HLR.out]; exact hkN)] at ho7
  obtain ⟨_, _, hA, -, -, vo, -⟩ := ho7.sv
  cases hA
  have hb7 : Below w4.heap.size w4 ((w5.setCell ⟨g5, kk * 2, none⟩ (.int .i64 1)).setCell ⟨g5, kk * 2 + 1, none⟩ (.string ⟨#[120]⟩)) := (hb5w.setCell hg5' _).setCell hg5' _
  replace hx := hx.below hb7
  replace hv2 := hv2.below hb7
  replace vr := vr.below hb7
  replace hw2 := Below.then hw2 hb7
  clear set5 set6 ho5 ho6 ho7 hb5 hb5w hb7 e1 e2 f1 f2 hkq AT
  generalize (w5.setCell ⟨g5, kk * 2, none⟩ (.int .i64 1)).setCell ⟨g5, kk * 2 + 1, none⟩ (.string ⟨#[120]⟩) = w6 at *
  generalize ra.set kk (1, ⟨#[120]⟩) = ro at *
  generalize some (⟨g5, 0, none⟩ : Addr) = a5 at *
  clear hg5 hg5'
  refine (row_any A N C ts K m g a0 N s0 ra _ hv2 hN1 vr hN1).mono ?_
  rw [R1.out]
  rintro e w7 ⟨rfl, hb7⟩
  replace hx := hx.below hb7
  replace hv2 := hv2.below hb7
  replace vr := vr.below hb7
  replace vo := vo.below hb7
  replace hw2 := Below.then hw2 hb7
  clear hb7
  obtain ⟨c0, c1, c2, c3⟩ := id hx
  go_wp2_with fail
  go_cut [13] (fun p wx => p = .bool false ∧ Below w7.heap.size w7 wx)
  case first =>
    refine wp_region_noPanic ?_
    refine region_g 9 (Ext (World.drew _)) (by kernel_rfl) (Ext.refl _) (fun hS => ?_)
    refine take_n (i := 0) (v := ?_) (some 37) rfl (by kernel_rfl) rfl (fun _ _ _ h => h) (Or.inl ⟨by rfl, ?_⟩) hS ?_
    rotate_left
    · (intro wq hq; have q0 := hq _ _ _ c0; have q1 := hq _ _ _ c1; have q2 := hq _ _ _ c2; have q3 := hq _ _ _ c3; go_simp); first | done | with_reducible rfl
    try simp only [Act.put, List.setIfInBounds_toArray, List.set_cons_zero, List.set_cons_succ]
    replace hS := Till.list 0 hS
    refine take_w (i := 2) (v := ?_) (some 39) rfl (by kernel_rfl) rfl (fun _ _ _ h => h) (Or.inl ⟨by rfl, ?_⟩) hS ?_
    rotate_left
    · (intro wq hq; go_simp); first | done | with_reducible rfl
    try simp only [Act.put, List.setIfInBounds_toArray, List.set_cons_zero, List.set_cons_succ]
    replace hS := Till.list 2 hS
    refine take_w (i := 4) (v := ?_) (some 41) rfl (by kernel_rfl) rfl (fun _ _ _ h => h) (Or.inl ⟨by rfl, ?_⟩) hS ?_
    rotate_left
    · (intro wq hq; go_simp); first | done | with_reducible rfl
    try simp only [Act.put, List.setIfInBounds_toArray, List.set_cons_zero, List.set_cons_succ]
    replace hS := Till.list 4 hS
    refine ready_g (rs := [1, 5]) (by kernel_rfl) (by simp) ?_
    refine (AllReadyG.cons rfl (fun Kont hK => ?_) (AllReadyG.cons rfl (fun Kont hK => ?_) AllReadyG.nil))
    · skip
      go_simp
      refine hK.out _ _ (Or.inr ((hS.get (by kernel_rfl)).alloc _)) (fun hS0 => ?_)
      clear hK Kont
      try simp only [Act.put, List.setIfInBounds_toArray, List.set_cons_zero, List.set_cons_succ]
      clear hS
      have hS := hS0
      clear hS0
      refine ready_g (rs := [3, 5]) (by kernel_rfl) (by simp) ?_
      refine (AllReadyG.cons rfl (fun Kont hK => ?_) (AllReadyG.cons rfl (fun Kont hK => ?_) AllReadyG.nil))
      · skip
        refine want (by kernel_rfl) ?_
        refine wp_append_new el_row (some 40) rfl (.tmp 38) (.tmp 39) rfl _ rfl a0 N s0 (vcells ra) rfl (vr.drew.alloc _) hN0 (by omega) (by omega) ?_
        intro v3 w8 ho3 hb8
        have hbW : Below w7.heap.size w7 w8 := ((Below.refl _ _).alloc (Nat.le_refl _) _).drew.trans (hb8.mono (by simp))
        refine hK.out _ _ (Or.inr ((hS.get (by kernel_rfl)).trans (Ext.below hb8))) (fun hS0 => ?_)
        clear hK Kont
        try simp only [Act.put, List.setIfInBounds_toArray, List.set_cons_zero, List.set_cons_succ]
        clear hS
        have hS := hS0
        clear hS0
        refine ready_g (rs := [5]) (by kernel_rfl) (by simp) ?_
        refine AllReadyG.cons rfl (fun Kont hK => ?_) AllReadyG.nil
        go_simp
        refine hK.out _ _ (Or.inr ((hS.get (by kernel_rfl)).alloc _)) (fun hS0 => ?_)
        clear hK Kont
        try simp only [Act.put, List.setIfInBounds_toArray, List.set_cons_zero, List.set_cons_succ]
        clear hS
        have hS := hS0
        clear hS0
        have s5 := SV.lit' (k := 2) w8 [.int .i64 0, .string ⟨#[]⟩] 1 50 rfl (two_one _ _) w8.heap.size rfl
        have hB := (hb8.size)
        replace hB := Nat.le_trans hB (show w8.heap.size ≤ (w8.alloc (.cells #[.int .i64 0, .string ⟨#[]⟩] 50)).heap.size by simp)
        have hB0 : w7.heap.size ≤ (w7.alloc (.cells #[] 50)).drew.heap.size := by simp
        replace ho3 := ho3.alloc (.cells #[.int .i64 0, .string ⟨#[]⟩] 50)
        replace hbW := hbW.alloc hbW.size (.cells #[.int .i64 0, .string ⟨#[]⟩] 50)
        refine ready_g (rs := [6]) (by kernel_rfl) (by simp) ?_
        refine AllReadyG.cons rfl (fun Kont hK => ?_) AllReadyG.nil
        refine want (by kernel_rfl) ?_
        refine wp_append_os el_row (some 43) rfl (.tmp 40) (.tmp 42) rfl _ _ N _ rfl ho3 _ 1 1 [.int .i64 0, .string ⟨#[]⟩] rfl s5 (by omega) (by omega) hB ?_
        intro v6 w9 ho6 hb9
        rw [show vcells ra ++ [.int .i64 0, .string ⟨#[]⟩] = vcells (ra ++ [v0]) from by rw [vcells_app]; rfl] at ho6
        obtain ⟨a6, c6, rfl, -, hc6, v6, -⟩ := ho6.sv
        have hbX : Below w7.heap.size w7 w9 := hbW.trans (hb9.mono hB0)
        refine hK.out _ _ (Or.inr (((hS.get (by kernel_rfl)).low hb9 hB0))) (fun hS0 => ?_)
        clear hK Kont
        try simp only [Act.put, List.setIfInBounds_toArray, List.set_cons_zero, List.set_cons_succ]
        clear hS
        have hS := hS0
        clear hS0
        refine ready_g (rs := [7]) (by kernel_rfl) (by simp) ?_
        refine AllReadyG.cons rfl (fun Kont hK => ?_) AllReadyG.nil
        go_simp
        refine (row_any A N C ts K m g a6 (N + 1) c6 (ra ++ [v0]) _ (hv2.below hbX) hN1 v6 (few_max (by omega))).mono ?_
        rw [R3.out]
        rintro e w10 ⟨rfl, hb10⟩
        refine hK.out _ _ (Or.inr ((hS.get (by kernel_rfl)).trans (Ext.below hb10))) (fun hS0 => ?_)
        clear hK Kont
        try simp only [Act.put, List.setIfInBounds_toArray, List.set_cons_zero, List.set_cons_succ]
        clear hS
        have hS := hS0
        clear hS0
        refine take_w (i := 8) (v := ?_) (some 13) rfl (by kernel_rfl) rfl (fun _ _ _ h => h) (Or.inl ⟨by rfl, ?_⟩) hS ?_
        rotate_left
        · (intro wq hq; go_simp); first | done | with_reducible rfl
        try simp only [Act.put, List.setIfInBounds_toArray, List.set_cons_zero, List.set_cons_succ]
        replace hS := Till.list 8 hS
        refine done_g (by kernel_rfl) (NoPanic.normal ?_) _
        clear hS
        clear s5 ho3 ho6 hB hB0 hbW hb9
        go_wp2_with fail
        go_meet
        exact ⟨rfl, Below.then hbX hb10⟩
      · skip
        go_simp
        refine hK.out _ _ (Or.inr ((hS.get (by kernel_rfl)).alloc _)) (fun hS0 => ?_)
        clear hK Kont
        try simp only [Act.put, List.setIfInBounds_toArray, List.set_cons_zero, List.set_cons_succ]
        clear hS
        have hS := hS0
        clear hS0
        refine ready_g (rs := [3]) (by kernel_rfl) (by simp) ?_
        refine AllReadyG.cons rfl (fun Kont hK => ?_) AllReadyG.nil
        refine want (by kernel_rfl) ?_
        refine wp_append_new el_row (some 40) rfl (.tmp 38) (.tmp 39) rfl _ rfl a0 N s0 (vcells ra) rfl ((vr.drew.alloc _).alloc _) hN0 (by omega) (by omega) ?_
        intro v3 w8 ho3 hb8
        have hbW : Below w7.heap.size w7 w8 := (((Below.refl _ _).alloc (Nat.le_refl _) _).alloc (by simp) _).drew.trans (hb8.mono (by simp; omega))
        have s5 := (SV.lit' (k := 2) (w7.alloc (.cells #[] 50)) [.int .i64 0, .string ⟨#[]⟩] 1 50 rfl (two_one _ _) (w7.heap.size + 1) (by simp)).drew.below hb8
        refine hK.out _ _ (Or.inr ((hS.get (by kernel_rfl)).trans (Ext.below hb8))) (fun hS0 => ?_)
        clear hK Kont
        try simp only [Act.put, List.setIfInBounds_toArray, List.set_cons_zero, List.set_cons_succ]
        clear hS
        have hS := hS0
        clear hS0
        have hB := (hb8.size)
        have hB0 : w7.heap.size ≤ ((w7.alloc (.cells #[] 50)).alloc (.cells #[.int .i64 0, .string ⟨#[]⟩] 50)).drew.heap.size := by simp; omega
        refine ready_g (rs := [6]) (by kernel_rfl) (by simp) ?_
        refine AllReadyG.cons rfl (fun Kont hK => ?_) AllReadyG.nil
        refine want (by kernel_rfl) ?_
        refine wp_append_os el_row (some 43) rfl (.tmp 40) (.tmp 42) rfl _ _ N _ rfl ho3 _ 1 1 [.int .i64 0, .string ⟨#[]⟩] rfl s5 (by omega) (by omega) hB ?_
        intro v6 w9 ho6 hb9
        rw [show vcells ra ++ [.int .i64 0, .string ⟨#[]⟩] = vcells (ra ++ [v0]) from by rw [vcells_app]; rfl] at ho6
        obtain ⟨a6, c6, rfl, -, hc6, v6, -⟩ := ho6.sv
        have hbX : Below w7.heap.size w7 w9 := hbW.trans (hb9.mono hB0)
        refine hK.out _ _ (Or.inr (((hS.get (by kernel_rfl)).low hb9 hB0))) (fun hS0 => ?_)
        clear hK Kont
        try simp only [Act.put, List.setIfInBounds_toArray, List.set_cons_zero, List.set_cons_succ]
        clear hS
        have hS := hS0
        clear hS0
        refine ready_g (rs := [7]) (by kernel_rfl) (by simp) ?_
        refine AllReadyG.cons rfl (fun Kont hK => ?_) AllReadyG.nil
        go_simp
        refine (row_any A N C ts K m g a6 (N + 1) c6 (ra ++ [v0]) _ (hv2.below hbX) hN1 v6 (few_max (by omega))).mono ?_
        rw [R3.out]
        rintro e w10 ⟨rfl, hb10⟩
        refine hK.out _ _ (Or.inr ((hS.get (by kernel_rfl)).trans (Ext.below hb10))) (fun hS0 => ?_)
        clear hK Kont
        try simp only [Act.put, List.setIfInBounds_toArray, List.set_cons_zero, List.set_cons_succ]
        clear hS
        have hS := hS0
        clear hS0
        refine take_w (i := 8) (v := ?_) (some 13) rfl (by kernel_rfl) rfl (fun _ _ _ h => h) (Or.inl ⟨by rfl, ?_⟩) hS ?_
        rotate_left
        · (intro wq hq; go_simp); first | done | with_reducible rfl
        try simp only [Act.put, List.setIfInBounds_toArray, List.set_cons_zero, List.set_cons_succ]
        replace hS := Till.list 8 hS
        refine done_g (by kernel_rfl) (NoPanic.normal ?_) _
        clear hS
        clear s5 ho3 ho6 hB hB0 hbW hb9
        go_wp2_with fail
        go_meet
        exact ⟨rfl, Below.then hbX hb10⟩
    · skip
      go_simp
      refine hK.out _ _ (Or.inr ((hS.get (by kernel_rfl)).alloc _)) (fun hS0 => ?_)
      clear hK Kont
      try simp only [Act.put, List.setIfInBounds_toArray, List.set_cons_zero, List.set_cons_succ]
      clear hS
      have hS := hS0
      clear hS0
      refine ready_g (rs := [1]) (by kernel_rfl) (by simp) ?_
      refine AllReadyG.cons rfl (fun Kont hK => ?_) AllReadyG.nil
      go_simp
      refine hK.out _ _ (Or.inr ((hS.get (by kernel_rfl)).alloc _)) (fun hS0 => ?_)
      clear hK Kont
      try simp only [Act.put, List.setIfInBounds_toArray, List.set_cons_zero, List.set_cons_succ]
      clear hS
      have hS := hS0
      clear hS0
      refine ready_g (rs := [3]) (by kernel_rfl) (by simp) ?_
      refine AllReadyG.cons rfl (fun Kont hK => ?_) AllReadyG.nil
      refine want (by kernel_rfl) ?_
      refine wp_append_new el_row (some 40) rfl (.tmp 38) (.tmp 39) rfl _ rfl a0 N s0 (vcells ra) rfl ((vr.drew.alloc _).alloc _) hN0 (by omega) (by omega) ?_
      intro v3 w8 ho3 hb8
      have hbW : Below w7.heap.size w7 w8 := (((Below.refl _ _).alloc (Nat.le_refl _) _).alloc (by simp) _).drew.trans (hb8.mono (by simp; omega))
      have s5 := ((SV.lit' (k := 2) w7 [.int .i64 0, .string ⟨#[]⟩] 1 50 rfl (two_one _ _) w7.heap.size rfl).alloc (.cells #[] 50)).drew.below hb8
      refine hK.out _ _ (Or.inr ((hS.get (by kernel_rfl)).trans (Ext.below hb8))) (fun hS0 => ?_)
      clear hK Kont
      try simp only [Act.put, List.setIfInBounds_toArray, List.set_cons_zero, List.set_cons_succ]
      clear hS
      have hS := hS0
      clear hS0
      have hB := (hb8.size)
      have hB0 : w7.heap.size ≤ ((w7.alloc (.cells #[.int .i64 0, .string ⟨#[]⟩] 50)).alloc (.cells #[] 50)).drew.heap.size := by simp; omega
      refine ready_g (rs := [6]) (by kernel_rfl) (by simp) ?_
      refine AllReadyG.cons rfl (fun Kont hK => ?_) AllReadyG.nil
      refine want (by kernel_rfl) ?_
      refine wp_append_os el_row (some 43) rfl (.tmp 40) (.tmp 42) rfl _ _ N _ rfl ho3 _ 1 1 [.int .i64 0, .string ⟨#[]⟩] rfl s5 (by omega) (by omega) hB ?_
      intro v6 w9 ho6 hb9
      rw [show vcells ra ++ [.int .i64 0, .string ⟨#[]⟩] = vcells (ra ++ [v0]) from by rw [vcells_app]; rfl] at ho6
      obtain ⟨a6, c6, rfl, -, hc6, v6, -⟩ := ho6.sv
      have hbX : Below w7.heap.size w7 w9 := hbW.trans (hb9.mono hB0)
      refine hK.out _ _ (Or.inr (((hS.get (by kernel_rfl)).low hb9 hB0))) (fun hS0 => ?_)
      clear hK Kont
      try simp only [Act.put, List.setIfInBounds_toArray, List.set_cons_zero, List.set_cons_succ]
      clear hS
      have hS := hS0
      clear hS0
      refine ready_g (rs := [7]) (by kernel_rfl) (by simp) ?_
      refine AllReadyG.cons rfl (fun Kont hK => ?_) AllReadyG.nil
      go_simp
      refine (row_any A N C ts K m g a6 (N + 1) c6 (ra ++ [v0]) _ (hv2.below hbX) hN1 v6 (few_max (by omega))).mono ?_
      rw [R3.out]
      rintro e w10 ⟨rfl, hb10⟩
      refine hK.out _ _ (Or.inr ((hS.get (by kernel_rfl)).trans (Ext.below hb10))) (fun hS0 => ?_)
      clear hK Kont
      try simp only [Act.put, List.setIfInBounds_toArray, List.set_cons_zero, List.set_cons_succ]
      clear hS
      have hS := hS0
      clear hS0
      refine take_w (i := 8) (v := ?_) (some 13) rfl (by kernel_rfl) rfl (fun _ _ _ h => h) (Or.inl ⟨by rfl, ?_⟩) hS ?_
      rotate_left
      · (intro wq hq; go_simp); first | done | with_reducible rfl
      try simp only [Act.put, List.setIfInBounds_toArray, List.set_cons_zero, List.set_cons_succ]
      replace hS := Till.list 8 hS
      refine done_g (by kernel_rfl) (NoPanic.normal ?_) _
      clear hS
      clear s5 ho3 ho6 hB hB0 hbW hb9
      go_wp2_with fail
      go_meet
      exact ⟨rfl, Below.then hbX hb10⟩
  case rest =>
    obtain ⟨rfl, hbc⟩ := hcut
    clear c0 c1 c2 c3
    replace hx := hx.below hbc
    replace hv2 := hv2.below hbc
    replace vr := vr.below hbc
    replace vo := vo.below hbc
    replace hw2 := Below.then hw2 hbc
    clear hbc
    obtain ⟨N', rfl⟩ : ∃ N', N = N' + 1 := ⟨N - 1, by omega⟩
    have hN2 : ((N' + 1 : Nat) : Int) - 1 = (N' : Int) := by omega
    obtain ⟨c0, c1, c2, c3⟩ := id hx
    have hw9 : IntKind.i64.wrap (N' : Int) = (N' : Int) := by rw [IntKind.wrap_i64]; omega
    have hN3 : (N' : Int) ≤ ((N' + 1 : Nat) : Int) := by omega
    have hN4 : N' ≤ s0 := by omega
    have vl := WV.takes vr N' (by omega)
    go_wp2_with fail
    refine wp_region_noPanic ?_
    refine region_g 8 (Ext (World.drew _)) (by kernel_rfl) (Ext.refl _) (fun hS => ?_)
    refine take_n (i := 0) (v := ?_) (some 45) rfl (by kernel_rfl) rfl (fun _ _ _ h => h) (Or.inl ⟨by rfl, ?_⟩) hS ?_
    rotate_left
    · (intro wq hq; have q0 := hq _ _ _ c0; have q1 := hq _ _ _ c1; have q2 := hq _ _ _ c2; have q3 := hq _ _ _ c3; go_simp); first | done | with_reducible rfl
    try simp only [Act.put, List.setIfInBounds_toArray, List.set_cons_zero, List.set_cons_succ]
    replace hS := Till.list 0 hS
    refine take_w (i := 1) (v := ?_) (some 46) rfl (by kernel_rfl) rfl (fun _ _ _ h => h) (Or.inl ⟨by rfl, ?_⟩) hS ?_
    rotate_left
    · (intro wq hq; go_simp); first | done | with_reducible rfl
    try simp only [Act.put, List.setIfInBounds_toArray, List.set_cons_zero, List.set_cons_succ]
    replace hS := Till.list 1 hS
    refine take_w (i := 2) (v := ?_) (some 47) rfl (by kernel_rfl) rfl (fun _ _ _ h => h) (Or.inl ⟨by rfl, ?_⟩) hS ?_
    rotate_left
    · (intro wq hq; go_simp); first | done | with_reducible rfl
    try simp only [Act.put, List.setIfInBounds_toArray, List.set_cons_zero, List.set_cons_succ]
    replace hS := Till.list 2 hS
    refine take_w (i := 3) (v := ?_) (some 48) rfl (by kernel_rfl) rfl (fun _ _ _ h => h) (Or.inl ⟨by rfl, ?_⟩) hS ?_
    rotate_left
    · (intro wq hq; go_simp); first | done | with_reducible rfl
    try simp only [Act.put, List.setIfInBounds_toArray, List.set_cons_zero, List.set_cons_succ]
    replace hS := Till.list 3 hS
    refine take_w (i := 4) (v := ?_) (some 49) rfl (by kernel_rfl) rfl (fun _ _ _ h => h) (Or.inl ⟨by rfl, ?_⟩) hS ?_
    rotate_left
    · (intro wq hq; go_simp); first | done | with_reducible rfl
    try simp only [Act.put, List.setIfInBounds_toArray, List.set_cons_zero, List.set_cons_succ]
    replace hS := Till.list 4 hS
    refine take_w (i := 5) (v := ?_) (some 50) rfl (by kernel_rfl) rfl (fun _ _ _ h => h) (Or.inl ⟨by rfl, ?_⟩) hS ?_
    rotate_left
    · (intro wq hq; go_simp); first | done | with_reducible rfl
    try simp only [Act.put, List.setIfInBounds_toArray, List.set_cons_zero, List.set_cons_succ]
    replace hS := Till.list 5 hS
    refine ready_g (rs := [6]) (by kernel_rfl) (by simp) ?_
    refine AllReadyG.cons rfl (fun Kont hK => ?_) AllReadyG.nil
    go_simp
    refine (row_any A (N' + 1) C ts K m g a0 N' s0 (ra.take N') _ hv2.drew hN1 vl.drew (few_max (by omega))).mono ?_
    rw [show rowB ts (ra.take N') = false from R4.out]
    rintro e w8 ⟨rfl, hb8⟩
    refine hK.out _ _ (Or.inr ((hS.get (by kernel_rfl)).trans (Ext.below hb8))) (fun hS0 => ?_)
    clear hK Kont
    try simp only [Act.put, List.setIfInBounds_toArray, List.set_cons_zero, List.set_cons_succ]
    clear hS
    have hS := hS0
    clear hS0
    refine take_w (i := 7) (v := ?_) (some 14) rfl (by kernel_rfl) rfl (fun _ _ _ h => h) (Or.inl ⟨by rfl, ?_⟩) hS ?_
    rotate_left
    · (intro wq hq; go_simp); first | done | with_reducible rfl
    try simp only [Act.put, List.setIfInBounds_toArray, List.set_cons_zero, List.set_cons_succ]
    replace hS := Till.list 7 hS
    refine done_g (by kernel_rfl) (NoPanic.normal ?_) _
    clear hS
    clear hw9 hN2 hN3 hN4 vl c0 c1 c2 c3
    have hbd : Below wc.heap.size wc w8 := (Below.refl _ _).drew.trans hb8
    replace hx := hx.below hbd
    replace hv2 := hv2.below hbd
    replace vr := vr.below hbd
    replace vo := vo.below hbd
    replace hw2 := Below.then hw2 hbd
    clear hbd hb8
    obtain ⟨c0, c1, c2, c3⟩ := id hx
    go_wp2_with fail
    clear c0 c1 c2 c3
    refine (row_any A (N' + 1) C ts K m g a5 (N' + 1) c5 ro _ hv2 hN1 vo hN1).mono ?_
    rw [R2.out]
    rintro e w9 ⟨rfl, hb9⟩
    replace hx := hx.below hb9
    replace hv2 := hv2.below hb9
    replace vr := vr.below hb9
    replace vo := vo.below hb9
    replace hw2 := Below.then hw2 hb9
    clear hb9
    obtain ⟨c0, c1, c2, c3⟩ := id hx
    go_wp2_with fail
    clear c0 c1 c2 c3
    have rv : RVs (w9.alloc (.cells #[.slice a0 (N' + 1) s0, .slice a5 (N' + 1) c5] 30)) (some ⟨w9.heap.size, 0, none⟩) 2 [ra, ro] := RVs.two (RowAt.of vr hN0 hp0 hs0) (RowAt.of vo hN0 hc5 hm5)
    refine (batch_any A (N' + 1) C ts K m g (some ⟨w9.heap.size, 0, none⟩) 2 2 [ra, ro] _ (hv2.alloc _) hN1 rv (by decide)).mono ?_
    rw [show batE ts [ra, ro] = 21 from bat_row (i := 1) rfl (by simp) R2.out]
    rintro e w10 ⟨rfl, hb10⟩
    replace hb10 := after1 hb10
    replace hx := hx.below hb10
    replace hv2 := hv2.below hb10
    replace vr := vr.below hb10
    replace vo := vo.below hb10
    replace hw2 := Below.then hw2 hb10
    clear hb10 rv
    obtain ⟨c0, c1, c2, c3⟩ := id hx
    go_wp2_with fail
    clear c0 c1 c2 c3
    have rv : RVs (w10.alloc (.cells #[.slice a0 (N' + 1) s0] 30)) (some ⟨w10.heap.size, 0, none⟩) 1 [ra] := RVs.one (RowAt.of vr hN0 hp0 hs0)
    refine (batch_any A (N' + 1) C ts K m g (some ⟨w10.heap.size, 0, none⟩) 1 1 [ra] _ (hv2.alloc _) hN1 rv (by decide)).mono ?_
    rw [show batE ts [ra] = 0 from bat_ok rfl (fun i hi => by obtain rfl : i = 0 := (by simp at hi; omega); exact R1.out)]
    rintro e w11 ⟨rfl, hb11⟩
    replace hb11 := after1 hb11
    replace hx := hx.below hb11
    replace hv2 := hv2.below hb11
    replace hw2 := Below.then hw2 hb11
    clear hb11 rv
    obtain ⟨c0, c1, c2, c3⟩ := id hx
    go_wp2_with fail
    clear c0 c1 c2 c3
    refine (batch_any A (N' + 1) C ts K m g none 0 0 [] _ hv2 hN1 ⟨rfl, .inl rfl⟩ (by decide)).mono ?_
    rw [show batE ts [] = 22 from bat_size rfl]
    rintro e w12 ⟨rfl, hb12⟩
    replace hw2 := Below.then hw2 hb12
    clear hb12
    go_wp2_with fail
    go_ret
    exact ⟨rfl, hw2⟩
end Go.Proofs.Ytllgnafbemmcaaa
