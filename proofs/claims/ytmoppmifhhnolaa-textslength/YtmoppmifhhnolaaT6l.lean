/- TextsLength: the walk. -/
import Derived.Test.YtmoppmifhhnolaaT6d
import Derived.Test.YtmoppmifhhnolaaH5
import Derived.Test.YtmoppmifhhnolaaR2
namespace Go.Proofs.Ytmoppmifhhnolaa
open Go.ChangeShapes Go.WideShapes Go.ChangeAt Go.RowKit
set_option linter.unusedVariables false

theorem putT_short {l : List ByteArray} {N D F : Nat} (hN : l.length = N) (hS : N ≤ 60) (hD : (dictL l).length = D) (hF : (eachL l).length = F) (h : D < F) : putT l = (N : Int) :: 1 :: dictL l := by
  have e : shortT l = true := by rw [shortT, hD, hF]; exact decide_eq_true h
  rw [putT, hN, pv_small (by omega), bodyT, if_pos e]; rfl
theorem putT_whole {l : List ByteArray} {N D F : Nat} (hN : l.length = N) (hS : N ≤ 60) (hD : (dictL l).length = D) (hF : (eachL l).length = F) (h : ¬ D < F) : putT l = (N : Int) :: 0 :: eachL l := by
  have e : ¬ shortT l = true := by rw [shortT, hD, hF]; simpa using h
  rw [putT, hN, pv_small (by omega), bodyT, if_neg e]; rfl
theorem Few60.at {l : List ByteArray} (h : Few60 l) (j : Nat) : (l.getD j ⟨#[]⟩).size ≤ 60 := by
  rw [List.getD_eq_getElem?_getD]
  cases hg : l[j]? with
  | none => exact (by decide : (⟨#[]⟩ : ByteArray).size ≤ 60)
  | some x => exact h x (List.mem_of_getElem? hg)
/-- one more text behind those that stand whole -/
theorem want_snoc {l : List ByteArray} {x : ByteArray} {u : Nat} (hu : x.size = u) (hx : u ≤ 60) : strOfNums (eachL l) ++ strOfNums [(u : Int)] ++ x = strOfNums (eachL (l ++ [x])) := by
  rw [eachL_snoc, hu, pv_small (by omega), ← str_add, ← str_add, str_nums, ← ByteArray.append_assoc]
set_option maxHeartbeats 2000000 in
theorem length6_is (A0 : Option Addr) (n0 C0 : Nat) (l0 : List ByteArray) (w : World) (hv0 : TV w A0 n0 l0) :
    Calls Try.prog 7 #[.slice A0 n0 C0] w fun e w' => e = .returned (.bool true) ∧ Below w.heap.size w w' := by
  go_enter Try.func7, Try.ntmps7
  go_wp2_with fail
  refine (shown6_is _).mono ?_
  rintro e w0 ⟨rfl, hb1⟩
  have hv1 := hv0.below hb1
  go_wp2_with fail
  refine (few6_any A0 n0 C0 l0 _ hv1).mono ?_
  rintro e w1 ⟨A, N, C, l, rfl, hNC, hN, hv, hf, -, hb2⟩
  replace hb1 := Below.then hb1 hb2
  clear hv0 hv1 hb2
  have HL := Lib.hid (TV.len hv)
  have hr := hf.sm
  have HPB := Lib.hid (putT_bytes (l := l) (by rw [HL.out]; omega))
  have HDB := Lib.hid (dictL_bytes (l := l) (by rw [HL.out]; omega))
  go_wp2_with fail
  refine (putT_any A N C l _ hv hr (by omega)).mono ?_
  rintro e w2 ⟨vb, rfl, ob, hb2⟩
  replace hb1 := Below.then hb1 hb2
  replace hv := hv.below hb2
  go_wp2_with fail
  refine (dict_any A N C l _ hv hr (by omega)).mono ?_
  rintro e w3 ⟨vd, rfl, od, hb3⟩
  replace hb1 := Below.then hb1 hb3
  replace hv := hv.below hb3
  replace ob := ob.below hb3
  go_wp2_with fail
  refine (each_any A N C l _ hv hr (by omega)).mono ?_
  rintro e w4 ⟨ve, rfl, oe, hb4⟩
  replace hb1 := Below.then hb1 hb4
  replace ob := ob.below hb4
  replace od := od.below hb4
  replace hv := hv.below hb4
  clear hb2 hb3 hb4
  go_wp2_with fail
  go_loopw [7, 8] (fun s i wr => ∃ j : Nat, j ≤ N ∧ i = .int .i64 (j : Int) ∧ s = .string (strOfNums (eachL (l.take j))) ∧ Below w4.heap.size w4 wr) (fun _ i _ => N - (intOf i).toNat)
  case atStart => exact ⟨0, by omega, rfl, rfl, Below.refl _ _⟩
  case round =>
    obtain ⟨j, hj, rfl, rfl, hbel⟩ := hrel
    by_cases hlt : j < N
    · have hji : (j : Int) < (N : Int) := by omega
      obtain ⟨b, off, rfl, hcl⟩ := TV.at hv j hlt
      have hcl' := keepc hcl hbel
      have hx := hf.at j
      have HS := Lib.hid (take_snocT l j (by rw [HL.out]; exact hlt))
      generalize l.getD j ⟨#[]⟩ = x at hcl' hx HS
      clear hcl
      obtain ⟨u, hu⟩ : ∃ u : Nat, x.size = u := ⟨_, rfl⟩
      rw [hu] at hx
      have hwu : IntKind.u8.wrap (u : Int) = (u : Int) := by rw [IntKind.wrap_u8']; omega
      have HW := Lib.hid (want_snoc (l := l.take j) hu hx)
      rw [← HS.out] at HW
      have hz := eachL_len210 (l := l.take j) (fun y hy => hr y (List.mem_of_mem_take hy))
      rw [List.length_take] at hz
      have hz1 : (strOfNums (eachL (l.take j))).size ≤ 20000 := by rw [str_size]; omega
      have hz2 : (strOfNums [(u : Int)]).size = 1 := str_size _
      generalize strOfNums (eachL (l.take j)) = s at HW hz1
      have hz3 : ¬ 9223372036854775807 < s.size + (strOfNums [(u : Int)]).size := by omega
      have hz4 : ¬ 9223372036854775807 < s.size + (strOfNums [(u : Int)]).size + u := by omega
      clear hz hz1 hz2
      go_wp2_with fail
      refine wp_region_noPanic ?_
      refine region_g 16 (Ext (World.drew _)) (by kernel_rfl) (Ext.refl _) (fun hS => ?_)
      refine take_w (i := 0) (v := ?_) (some 24) rfl (by kernel_rfl) rfl (fun _ _ _ h => h) (Or.inl ⟨by rfl, ?_⟩) hS ?_
      rotate_left
      · (intro wq hq; go_simp); first | done | with_reducible rfl
      try simp only [Act.put, List.setIfInBounds_toArray, List.set_cons_zero, List.set_cons_succ]
      replace hS := Till.list 0 hS
      refine take_w (i := 1) (v := ?_) (some 25) rfl (by kernel_rfl) rfl (fun _ _ _ h => h) (Or.inl ⟨by rfl, ?_⟩) hS ?_
      rotate_left
      · (intro wq hq; go_simp); first | done | with_reducible rfl
      try simp only [Act.put, List.setIfInBounds_toArray, List.set_cons_zero, List.set_cons_succ]
      replace hS := Till.list 1 hS
      refine take_w (i := 2) (v := ?_) (some 26) rfl (by kernel_rfl) rfl (fun _ _ _ h => h) (Or.inl ⟨by rfl, ?_⟩) hS ?_
      rotate_left
      · (intro wq hq; go_simp); first | done | with_reducible rfl
      try simp only [Act.put, List.setIfInBounds_toArray, List.set_cons_zero, List.set_cons_succ]
      replace hS := Till.list 2 hS
      refine take_w (i := 10) (v := ?_) (some 34) rfl (by kernel_rfl) rfl (fun _ _ _ h => h) (Or.inl ⟨by rfl, ?_⟩) hS ?_
      rotate_left
      · (intro wq hq; go_simp); first | done | with_reducible rfl
      try simp only [Act.put, List.setIfInBounds_toArray, List.set_cons_zero, List.set_cons_succ]
      replace hS := Till.list 10 hS
      refine take_w (i := 11) (v := ?_) (some 35) rfl (by kernel_rfl) rfl (fun _ _ _ h => h) (Or.inl ⟨by rfl, ?_⟩) hS ?_
      rotate_left
      · (intro wq hq; go_simp); first | done | with_reducible rfl
      try simp only [Act.put, List.setIfInBounds_toArray, List.set_cons_zero, List.set_cons_succ]
      replace hS := Till.list 11 hS
      refine take_w (i := 3) (v := ?_) (some 27) rfl (by kernel_rfl) rfl (fun _ _ _ h => h) (Or.inl ⟨by rfl, ?_⟩) hS ?_
      rotate_left
      · (intro wq hq; go_simp); first | done | with_reducible rfl
      try simp only [Act.put, List.setIfInBounds_toArray, List.set_cons_zero, List.set_cons_succ]
      replace hS := Till.list 3 hS
      refine take_w (i := 12) (v := ?_) (some 36) rfl (by kernel_rfl) rfl (fun _ _ _ h => h) (Or.inl ⟨by rfl, ?_⟩) hS ?_
      rotate_left
      · (intro wq hq; go_simp); first | done | with_reducible rfl
      try simp only [Act.put, List.setIfInBounds_toArray, List.set_cons_zero, List.set_cons_succ]
      replace hS := Till.list 12 hS
      refine take_n (i := 4) (v := ?_) (some 28) rfl (by kernel_rfl) rfl (fun _ _ _ h => h) (Or.inl ⟨by rfl, ?_⟩) hS ?_
      rotate_left
      · (intro wq hq; have q0 := hq _ _ _ hcl'; go_simp); first | done | with_reducible rfl
      try simp only [Act.put, List.setIfInBounds_toArray, List.set_cons_zero, List.set_cons_succ]
      replace hS := Till.list 4 hS
      refine take_n (i := 13) (v := ?_) (some 37) rfl (by kernel_rfl) rfl (fun _ _ _ h => h) (Or.inl ⟨by rfl, ?_⟩) hS ?_
      rotate_left
      · (intro wq hq; have q0 := hq _ _ _ hcl'; go_simp); first | done | with_reducible rfl
      try simp only [Act.put, List.setIfInBounds_toArray, List.set_cons_zero, List.set_cons_succ]
      replace hS := Till.list 13 hS
      refine take_w (i := 5) (v := ?_) (some 29) rfl (by kernel_rfl) rfl (fun _ _ _ h => h) (Or.inl ⟨by rfl, ?_⟩) hS ?_
      rotate_left
      · (intro wq hq; go_simp); first | done | with_reducible rfl
      try simp only [Act.put, List.setIfInBounds_toArray, List.set_cons_zero, List.set_cons_succ]
      replace hS := Till.list 5 hS
      refine take_w (i := 6) (v := ?_) (some 30) rfl (by kernel_rfl) rfl (fun _ _ _ h => h) (Or.inl ⟨by rfl, ?_⟩) hS ?_
      rotate_left
      · (intro wq hq; go_simp); first | done | with_reducible rfl
      try simp only [Act.put, List.setIfInBounds_toArray, List.set_cons_zero, List.set_cons_succ]
      replace hS := Till.list 6 hS
      have bo : BV (wr.drew.alloc (.cells #[.int .u8 (u : Int)] 5)) (some ⟨wr.heap.size, 0, none⟩) 1 [(u : Int)] := BV.one1 wr.drew (u : Int) (by omega) (by omega)
      have hw5 := (hbel.drew.alloc hbel.drew.size (.cells #[.int .u8 (u : Int)] 5))
      refine ready_g (rs := [7]) (by kernel_rfl) (by simp) ?_
      refine AllReadyG.cons rfl (fun Kont hK => ?_) AllReadyG.nil
      go_simp
      refine hK.out _ _ (Or.inr ((hS.get (by kernel_rfl)).alloc _)) (fun hS0 => ?_)
      clear hK Kont
      try simp only [Act.put, List.setIfInBounds_toArray, List.set_cons_zero, List.set_cons_succ]
      clear hS
      refine now_t (by kernel_rfl) hS0 (fun hS => ?_)
      clear hS0
      refine take_n (i := 8) (v := .string (strOfNums [(u : Int)])) (some 32) rfl (by kernel_rfl) rfl (fun _ _ _ h => h) (Or.inl ⟨by rfl, ?_⟩) hS ?_
      · (intro wq hq; (have hcv := conv_any (bo.ext hq) 1; go_simp))
      try simp only [Act.put, List.setIfInBounds_toArray, List.set_cons_zero, List.set_cons_succ]
      replace hS := Till.list 8 hS
      refine take_w (i := 9) (v := ?_) (some 33) rfl (by kernel_rfl) rfl (fun _ _ _ h => h) (Or.inl ⟨by rfl, ?_⟩) hS ?_
      rotate_left
      · (intro wq hq; go_simp); first | done | with_reducible rfl
      try simp only [Act.put, List.setIfInBounds_toArray, List.set_cons_zero, List.set_cons_succ]
      replace hS := Till.list 9 hS
      refine take_w (i := 14) (v := ?_) (some 38) rfl (by kernel_rfl) rfl (fun _ _ _ h => h) (Or.inl ⟨by rfl, ?_⟩) hS ?_
      rotate_left
      · (intro wq hq; go_simp); first | done | with_reducible rfl
      try simp only [Act.put, List.setIfInBounds_toArray, List.set_cons_zero, List.set_cons_succ]
      replace hS := Till.list 14 hS
      refine take_w (i := 15) (v := ?_) (some 7) rfl (by kernel_rfl) rfl (fun _ _ _ h => h) (Or.inl ⟨by rfl, ?_⟩) hS ?_
      rotate_left
      · (intro wq hq; go_simp); first | done | with_reducible rfl
      try simp only [Act.put, List.setIfInBounds_toArray, List.set_cons_zero, List.set_cons_succ]
      replace hS := Till.list 15 hS
      refine done_g (by kernel_rfl) (NoPanic.normal ?_) _
      clear hS
      go_wp2_with fail
      go_roundw
      case rel => exact ⟨j + 1, by omega, by go_num, congrArg Value.string HW.out, hw5⟩
      case measure => simp [intOf]; omega
    · obtain rfl : j = N := by omega
      have HE : Hid (l.take j = l) := Lib.hid (by rw [← HL.out, List.take_length])
      rw [HE.out]
      replace ob := ob.below hbel
      replace od := od.below hbel
      replace oe := oe.below hbel
      replace hb1 := Below.then hb1 hbel
      clear hv
      obtain ⟨D, hD⟩ : ∃ D, (dictL l).length = D := ⟨_, rfl⟩
      obtain ⟨F, hF⟩ : ∃ F, (eachL l).length = F := ⟨_, rfl⟩
      obtain ⟨ad, cd, rfl, -, -, bd, -⟩ := od.bvn HDB.out D hD
      obtain ⟨ae, ce, rfl, -, -, be, -⟩ := oe.bvn (eachL_bytes l) F hF
      have hNu : IntKind.u8.wrap (j : Int) = (j : Int) := by rw [IntKind.wrap_u8']; omega
      clear od oe hbel
      by_cases hlt : D < F
      · have hp := putT_short HL.out hN hD hF hlt
        obtain ⟨L, hL⟩ : ∃ L, D + 2 = L := ⟨_, rfl⟩
        obtain ⟨ab, cb, rfl, hcb, -, bb, -⟩ := ob.bvn HPB.out L (by rw [hp, List.length_cons, List.length_cons]; omega)
        obtain ⟨b, off, rfl, hcell⟩ := bb.opened (by omega)
        have c0 := hcell 0 (by omega)
        have c1 := hcell 1 (by omega)
        obtain ⟨a', hsl0, bt'⟩ := bb.slice_lo 2 cb (by omega) hcb
        have hsl : ∀ wx, (Instr.slice 23 (.slice (some ⟨b, off, none⟩) L cb) (some (.int .i64 2)) none none).run Try.prog wx = .ok (.slice a' (L - 2) (cb - 2)) wx := hsl0
        clear hsl0
        rw [hp] at c0 c1 bt'
        have c0' : wr.cell? ⟨b, off, none⟩ = some (.int .u8 (j : Int)) := c0
        have c1' : wr.cell? ⟨b, off + 1, none⟩ = some (.int .u8 1) := c1
        rw [show (((j : Int) :: 1 :: dictL l).drop 2) = dictL l from rfl] at bt'
        have h2 : ¬ (L : Int) < 2 := by omega
        have h4 : (1 : Int) < (L : Int) := by omega
        have h5 : (0 : Int) < (L : Int) := by omega
        have hse := conv_any be ce
        have hst := str_beq (eachL_bytes l) (eachL_bytes l)
        rw [decide_eq_true rfl] at hst
        clear ob bb hcell c0 c1 hp hD hF hL
        have hlti : (D : Int) < (F : Int) := by omega
        have hst2 := str_beq HDB.out HDB.out
        rw [decide_eq_true rfl] at hst2
        go_wp2_with fail
        refine wp_region_noPanic ?_
        refine region_g 16 (Ext (World.drew _)) (by kernel_rfl) (Ext.refl _) (fun hS => ?_)
        refine take_w (i := 0) (v := ?_) (some 62) rfl (by kernel_rfl) rfl (fun _ _ _ h => h) (Or.inl ⟨by rfl, ?_⟩) hS ?_
        rotate_left
        · (intro wq hq; go_simp); first | done | with_reducible rfl
        try simp only [Act.put, List.setIfInBounds_toArray, List.set_cons_zero, List.set_cons_succ]
        replace hS := Till.list 0 hS
        refine take_w (i := 1) (v := ?_) (some 63) rfl (by kernel_rfl) rfl (fun _ _ _ h => h) (Or.inl ⟨by rfl, ?_⟩) hS ?_
        rotate_left
        · (intro wq hq; go_simp); first | done | with_reducible rfl
        try simp only [Act.put, List.setIfInBounds_toArray, List.set_cons_zero, List.set_cons_succ]
        replace hS := Till.list 1 hS
        refine take_w (i := 2) (v := ?_) (some 64) rfl (by kernel_rfl) rfl (fun _ _ _ h => h) (Or.inl ⟨by rfl, ?_⟩) hS ?_
        rotate_left
        · (intro wq hq; go_simp); first | done | with_reducible rfl
        try simp only [Act.put, List.setIfInBounds_toArray, List.set_cons_zero, List.set_cons_succ]
        replace hS := Till.list 2 hS
        refine take_w (i := 3) (v := ?_) (some 65) rfl (by kernel_rfl) rfl (fun _ _ _ h => h) (Or.inl ⟨by rfl, ?_⟩) hS ?_
        rotate_left
        · (intro wq hq; go_simp); first | done | with_reducible rfl
        try simp only [Act.put, List.setIfInBounds_toArray, List.set_cons_zero, List.set_cons_succ]
        replace hS := Till.list 3 hS
        refine take_n (i := 4) (v := ?_) (some 66) rfl (by kernel_rfl) rfl (fun _ _ _ h => h) (Or.inl ⟨by rfl, ?_⟩) hS ?_
        rotate_left
        · (intro wq hq; have q0 := hq _ _ _ c1'; go_simp); first | done | with_reducible rfl
        try simp only [Act.put, List.setIfInBounds_toArray, List.set_cons_zero, List.set_cons_succ]
        replace hS := Till.list 4 hS
        refine take_w (i := 5) (v := ?_) (some 67) rfl (by kernel_rfl) rfl (fun _ _ _ h => h) (Or.inl ⟨by rfl, ?_⟩) hS ?_
        rotate_left
        · (intro wq hq; go_simp); first | done | with_reducible rfl
        try simp only [Act.put, List.setIfInBounds_toArray, List.set_cons_zero, List.set_cons_succ]
        replace hS := Till.list 5 hS
        refine take_w (i := 6) (v := ?_) (some 68) rfl (by kernel_rfl) rfl (fun _ _ _ h => h) (Or.inl ⟨by rfl, ?_⟩) hS ?_
        rotate_left
        · (intro wq hq; go_simp); first | done | with_reducible rfl
        try simp only [Act.put, List.setIfInBounds_toArray, List.set_cons_zero, List.set_cons_succ]
        replace hS := Till.list 6 hS
        refine take_w (i := 7) (v := ?_) (some 69) rfl (by kernel_rfl) rfl (fun _ _ _ h => h) (Or.inl ⟨by rfl, ?_⟩) hS ?_
        rotate_left
        · (intro wq hq; go_simp); first | done | with_reducible rfl
        try simp only [Act.put, List.setIfInBounds_toArray, List.set_cons_zero, List.set_cons_succ]
        replace hS := Till.list 7 hS
        refine take_w (i := 8) (v := ?_) (some 70) rfl (by kernel_rfl) rfl (fun _ _ _ h => h) (Or.inl ⟨by rfl, ?_⟩) hS ?_
        rotate_left
        · (intro wq hq; go_simp); first | done | with_reducible rfl
        try simp only [Act.put, List.setIfInBounds_toArray, List.set_cons_zero, List.set_cons_succ]
        replace hS := Till.list 8 hS
        refine take_w (i := 11) (v := ?_) (some 73) rfl (by kernel_rfl) rfl (fun _ _ _ h => h) (Or.inl ⟨by rfl, ?_⟩) hS ?_
        rotate_left
        · (intro wq hq; go_simp); first | done | with_reducible rfl
        try simp only [Act.put, List.setIfInBounds_toArray, List.set_cons_zero, List.set_cons_succ]
        replace hS := Till.list 11 hS
        refine take_w (i := 9) (v := ?_) (some 71) rfl (by kernel_rfl) rfl (fun _ _ _ h => h) (Or.inl ⟨by rfl, ?_⟩) hS ?_
        rotate_left
        · (intro wq hq; go_simp); first | done | with_reducible rfl
        try simp only [Act.put, List.setIfInBounds_toArray, List.set_cons_zero, List.set_cons_succ]
        replace hS := Till.list 9 hS
        refine take_n (i := 10) (v := .string (strOfNums (dictL l))) (some 72) rfl (by kernel_rfl) rfl (fun _ _ _ h => h) (Or.inl ⟨by rfl, ?_⟩) hS ?_
        · (intro wq hq; (have hcv := fun c => conv_any (bt'.ext hq) c; go_simp))
        try simp only [Act.put, List.setIfInBounds_toArray, List.set_cons_zero, List.set_cons_succ]
        replace hS := Till.list 10 hS
        refine take_n (i := 12) (v := .string (strOfNums (dictL l))) (some 74) rfl (by kernel_rfl) rfl (fun _ _ _ h => h) (Or.inl ⟨by rfl, ?_⟩) hS ?_
        · (intro wq hq; (have hcv := conv_any (bd.ext hq) cd; go_simp))
        try simp only [Act.put, List.setIfInBounds_toArray, List.set_cons_zero, List.set_cons_succ]
        replace hS := Till.list 12 hS
        refine take_w (i := 13) (v := ?_) (some 75) rfl (by kernel_rfl) rfl (fun _ _ _ h => h) (Or.inl ⟨by rfl, ?_⟩) hS ?_
        rotate_left
        · (intro wq hq; go_simp); first | done | with_reducible rfl
        try simp only [Act.put, List.setIfInBounds_toArray, List.set_cons_zero, List.set_cons_succ]
        replace hS := Till.list 13 hS
        refine take_w (i := 14) (v := ?_) (some 76) rfl (by kernel_rfl) rfl (fun _ _ _ h => h) (Or.inl ⟨by rfl, ?_⟩) hS ?_
        rotate_left
        · (intro wq hq; go_simp); first | done | with_reducible rfl
        try simp only [Act.put, List.setIfInBounds_toArray, List.set_cons_zero, List.set_cons_succ]
        replace hS := Till.list 14 hS
        refine take_w (i := 15) (v := ?_) (some 2) rfl (by kernel_rfl) rfl (fun _ _ _ h => h) (Or.inl ⟨by rfl, ?_⟩) hS ?_
        rotate_left
        · (intro wq hq; go_simp); first | done | with_reducible rfl
        try simp only [Act.put, List.setIfInBounds_toArray, List.set_cons_zero, List.set_cons_succ]
        replace hS := Till.list 15 hS
        refine done_g (by kernel_rfl) (NoPanic.normal ?_) _
        clear hS
        go_wp2_with fail
        go_ret
        exact ⟨rfl, hb1.drew⟩
      · have hp := putT_whole HL.out hN hD hF hlt
        obtain ⟨L, hL⟩ : ∃ L, F + 2 = L := ⟨_, rfl⟩
        obtain ⟨ab, cb, rfl, hcb, -, bb, -⟩ := ob.bvn HPB.out L (by rw [hp, List.length_cons, List.length_cons]; omega)
        obtain ⟨b, off, rfl, hcell⟩ := bb.opened (by omega)
        have c0 := hcell 0 (by omega)
        have c1 := hcell 1 (by omega)
        obtain ⟨a', hsl0, bt'⟩ := bb.slice_lo 2 cb (by omega) hcb
        have hsl : ∀ wx, (Instr.slice 23 (.slice (some ⟨b, off, none⟩) L cb) (some (.int .i64 2)) none none).run Try.prog wx = .ok (.slice a' (L - 2) (cb - 2)) wx := hsl0
        clear hsl0
        rw [hp] at c0 c1 bt'
        have c0' : wr.cell? ⟨b, off, none⟩ = some (.int .u8 (j : Int)) := c0
        have c1' : wr.cell? ⟨b, off + 1, none⟩ = some (.int .u8 0) := c1
        rw [show (((j : Int) :: 0 :: eachL l).drop 2) = eachL l from rfl] at bt'
        have h2 : ¬ (L : Int) < 2 := by omega
        have h4 : (1 : Int) < (L : Int) := by omega
        have h5 : (0 : Int) < (L : Int) := by omega
        have hse := conv_any be ce
        have hst := str_beq (eachL_bytes l) (eachL_bytes l)
        rw [decide_eq_true rfl] at hst
        clear ob bb hcell c0 c1 hp hD hF hL
        have hlti : ¬ (D : Int) < (F : Int) := by omega
        have hcv := fun c => conv_any bt' c
        go_wp2_with fail
        go_ret
        exact ⟨rfl, hb1⟩
end Go.Proofs.Ytmoppmifhhnolaa
