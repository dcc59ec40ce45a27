/- The document's own answers for layer 6: Take. -/
import Derived.Test.YtmoppmifhhnolaaT6h
namespace Go.Proofs.Ytmoppmifhhnolaa
open Go.ChangeShapes Go.WideShapes Go.ChangeAt Go.RowKit
set_option linter.unusedVariables false

theorem ReadT.two {w w' : World} {zs : List Int} {A : Option Addr} {N C : Nat} {ok : Bool} (h : ReadT w w' zs (.returned (.tuple #[.slice A N C, .bool ok]))) :
    (ok = true ∧ ∃ l, N ≤ C ∧ N ≤ 2000 ∧ Few60 l ∧ TV w' A N l ∧ (∀ k, OkT k → putT k = zs → k = l) ∧ Below w.heap.size w w') ∨ (ok = false ∧ NoT zs ∧ Below w.heap.size w w') := by
  rcases h with ⟨A', N', C', l, he, h1, h2, h3, h4, h5, h6⟩ | ⟨he, h1, h2⟩
  · simp only [Ending.returned.injEq, Value.tuple.injEq, Array.mk.injEq, List.cons.injEq, Value.slice.injEq, Value.bool.injEq, and_true] at he
    obtain ⟨⟨rfl, rfl, rfl⟩, rfl⟩ := he
    exact .inl ⟨rfl, l, h1, h2, h3, h4, h5, h6⟩
  · simp only [Ending.returned.injEq, Value.tuple.injEq, Array.mk.injEq, List.cons.injEq, Value.slice.injEq, Value.bool.injEq, and_true] at he
    obtain ⟨_, rfl⟩ := he
    exact .inr ⟨rfl, h1, h2⟩
theorem TakeT.done {w w' : World} {A : Option Addr} {N C : Nat} {l : List ByteArray} {zs : List Int} (hC : N ≤ C) (hN : N ≤ 2000) (hi : Few60 l) (hl : TV w' A N l) (hp : putT l = zs) (hb : Below w.heap.size w w') : TakeT w w' zs (.returned (.tuple #[.slice A N C, .int .i64 0])) :=
  .inl ⟨A, N, C, l, rfl, hC, hN, hi, hl, hp, hb⟩
theorem TakeT.none {w w' : World} {zs : List Int} (hno : NoT zs) (hb : Below w.heap.size w w') : TakeT w w' zs (.returned (.tuple #[.slice none 0 0, .int .i64 10])) := .inr ⟨rfl, hno, hb⟩
set_option maxHeartbeats 4000000 in
theorem rtakeT_any (a : Option Addr) (n c : Nat) (zs : List Int) (w : World) (hv : BV w a n zs) (hc : n ≤ c) (hn : n ≤ 1000000) :
    Calls Try.prog 12 #[.slice a n c] w fun e w' => TakeT w w' zs e := by
  have hlz := hv.1
  go_enter Try.func12, Try.ntmps12
  by_cases hs0 : (varR zs).2 = 0
  · have hno := Lib.hid (varR_none hs0)
    have HF := Lib.hid (noT_below (fun k r hk => below_none hs0 k r (by omega)))
    clear hs0 hlz
    go_wp2_with fail
    refine (rvar_any a n c zs _ hv hc).mono ?_
    rw [hno.out]
    rintro e w1 ⟨rfl, hb1⟩
    clear hno
    go_wp2_with fail
    go_ret2
    exact TakeT.none HF.out hb1
  obtain ⟨y, rest, hrr, hy0, hy1, hvar⟩ := varR_back zs hv.2.1 hs0
  have hpos := pv_pos y
  have hl10 := pv_len10 (x := y) (by omega)
  obtain ⟨s, hs⟩ : ∃ s, (pv y).length = s := ⟨_, rfl⟩
  rw [hs] at hvar hpos hl10
  have hsn : n = s + rest.length := by
    have := congrArg List.length hrr
    rw [List.length_append, hlz, hs] at this; exact this
  have HV := Lib.hid hvar
  have HRR := Lib.hid hrr
  have HSS := Lib.hid hs
  clear hs0 hlz hvar hrr hs
  have hs1 : ((s : Int) == 0) = false := by rw [beq_eq_false_iff_ne]; omega
  by_cases hmany : 2000 < y
  · have HF := Lib.hid (noT_below (fun k r hk => below_not ⟨hy0, hy1⟩ HRR.out k r (by omega)))
    clear hsn
    go_wp2_with fail
    refine (rvar_any a n c zs _ hv hc).mono ?_
    rw [HV.out]
    rintro e w1 ⟨rfl, hb1⟩
    go_wp2_with fail
    go_ret2
    exact TakeT.none HF.out hb1
  cases rest with
  | nil =>
    have HF := Lib.hid (noT_empty ⟨hy0, hy1⟩ HRR.out)
    obtain rfl : n = s := hsn
    go_wp2_with fail
    refine (rvar_any a n c zs _ hv hc).mono ?_
    rw [HV.out]
    rintro e w1 ⟨rfl, hb1⟩
    go_wp2_with fail
    go_ret2
    exact TakeT.none HF.out hb1
  | cons x rr =>
    obtain ⟨N, rfl⟩ : ∃ N : Nat, y = (N : Int) := ⟨y.toNat, by omega⟩
    have hN : N ≤ 2000 := by omega
    have hNi : IntKind.i64.wrap (N : Int) = (N : Int) := by rw [IntKind.wrap_i64]; omega
    rw [List.length_cons] at hsn
    have hsn1 : s + 1 ≤ n := by omega
    clear hsn
    obtain ⟨b, off, rfl, hcell⟩ := hv.opened (by omega)
    have hcw := hcell s (by omega)
    rw [show zs.getD s 0 = x by rw [HRR.out]; simp [List.getD, HSS.out]] at hcw
    have hxb : 0 ≤ x ∧ x ≤ 255 := hv.2.1 x (by rw [HRR.out]; simp)
    have i1 : ¬ n ≤ s := by omega
    have i2 : (s : Int) < (n : Int) := by omega
    obtain ⟨t, ht⟩ : ∃ t, s + 1 = t := ⟨_, rfl⟩
    have HRD : Hid (zs.drop t = rr) := Lib.hid (by rw [← ht, HRR.out, List.drop_append, HSS.out]; simp [List.drop_eq_nil_of_le, HSS.out])
    have hwt : IntKind.i64.wrap ((s : Int) + 1) = (t : Int) := by rw [IntKind.wrap_i64]; omega
    have i4 : t ≤ n := by omega
    obtain ⟨a1, hsl1, bv1⟩ := hv.slice_lo t c i4 hc
    rw [HRD.out] at bv1
    clear hcell ht HRD hsn1
    go_wp2_with fail
    refine (rvar_any _ n c zs _ hv hc).mono ?_
    rw [HV.out]
    rintro e w1 ⟨rfl, hb1⟩
    replace hcw := keepc hcw hb1
    replace hv := hv.below hb1
    replace bv1 := bv1.below hb1
    go_wp2_with fail
    refine (reachin_any N hN a1 (n - t) (c - t) rr _ bv1 (by omega) (by omega)).mono ?_
    rintro e w2 he
    have hb2 : Below w1.heap.size w1 w2 := by
      rcases he with ⟨_, _, _, _, _, _, _, _, _, _, _, _, _, _, _, hb⟩ | ⟨_, _, hb⟩ <;> exact hb
    replace hcw := keepc hcw hb2
    obtain ⟨A2, N2, C2, a3, n3, c3, ok2, rfl, hW⟩ := he.way
    clear he
    replace hv := hv.below hb2
    replace bv1 := bv1.below hb2
    by_cases h1 : x = 1
    · subst h1
      clear hW
      replace hb1 := Below.then hb1 hb2
      go_wp2_with fail
      refine (rnumbered_any N hN a1 (n - t) (c - t) rr _ bv1 (by omega) (by omega)).mono ?_
      rintro e w3 he
      have hA := he.all hb1 hN (fun k hk hp => wayT1 HRR.out hN hk hp)
      have hb3 : Below w2.heap.size w2 w3 := by
        rcases he with ⟨_, _, _, _, _, _, _, _, hb⟩ | ⟨_, _, hb⟩ <;> exact hb
      clear he hcw bv1 hsl1 hb1 hb2
      obtain ⟨A4, N4, C4, ok4, rfl⟩ := hA.shape
      replace hv := hv.below hb3
      rcases hA.two with ⟨rfl, p, hC, hN2, hi, vo, hu, hbel⟩ | ⟨rfl, hno, hbel⟩
      rotate_left
      · have HF := Lib.hid hno
        clear hno hA
        go_wp2_with fail
        refine wp_region_noPanic ?_
        refine region_g 10 (Ext (World.drew _)) (by kernel_rfl) (Ext.refl _) (fun hS => ?_)
        refine take_w (i := 0) (v := ?_) (some 52) rfl (by kernel_rfl) rfl (fun _ _ _ h => h) (Or.inl ⟨by rfl, ?_⟩) hS ?_
        rotate_left
        · (intro wq hq; go_simp); first | done | with_reducible rfl
        try simp only [Act.put, List.setIfInBounds_toArray, List.set_cons_zero, List.set_cons_succ]
        replace hS := Till.list 0 hS
        refine take_w (i := 1) (v := ?_) (some 53) rfl (by kernel_rfl) rfl (fun _ _ _ h => h) (Or.inl ⟨by rfl, ?_⟩) hS ?_
        rotate_left
        · (intro wq hq; go_simp); first | done | with_reducible rfl
        try simp only [Act.put, List.setIfInBounds_toArray, List.set_cons_zero, List.set_cons_succ]
        replace hS := Till.list 1 hS
        refine take_w (i := 2) (v := ?_) (some 54) rfl (by kernel_rfl) rfl (fun _ _ _ h => h) (Or.inl ⟨by rfl, ?_⟩) hS ?_
        rotate_left
        · (intro wq hq; go_simp); first | done | with_reducible rfl
        try simp only [Act.put, List.setIfInBounds_toArray, List.set_cons_zero, List.set_cons_succ]
        replace hS := Till.list 2 hS
        refine take_w (i := 3) (v := undef) (some 55) rfl (by kernel_rfl) rfl (fun _ _ _ h => h) (Or.inr ⟨by rfl, rfl⟩) hS ?_
        try simp only [Act.put, List.setIfInBounds_toArray, List.set_cons_zero, List.set_cons_succ]
        replace hS := Till.list 3 hS
        refine take_w (i := 6) (v := undef) (some 58) rfl (by kernel_rfl) rfl (fun _ _ _ h => h) (Or.inr ⟨by rfl, rfl⟩) hS ?_
        try simp only [Act.put, List.setIfInBounds_toArray, List.set_cons_zero, List.set_cons_succ]
        replace hS := Till.list 6 hS
        refine take_w (i := 4) (v := undef) (some 56) rfl (by kernel_rfl) rfl (fun _ _ _ h => h) (Or.inr ⟨by rfl, rfl⟩) hS ?_
        try simp only [Act.put, List.setIfInBounds_toArray, List.set_cons_zero, List.set_cons_succ]
        replace hS := Till.list 4 hS
        refine take_w (i := 7) (v := undef) (some 59) rfl (by kernel_rfl) rfl (fun _ _ _ h => h) (Or.inr ⟨by rfl, rfl⟩) hS ?_
        try simp only [Act.put, List.setIfInBounds_toArray, List.set_cons_zero, List.set_cons_succ]
        replace hS := Till.list 7 hS
        refine take_w (i := 5) (v := undef) (some 57) rfl (by kernel_rfl) rfl (fun _ _ _ h => h) (Or.inr ⟨by rfl, rfl⟩) hS ?_
        try simp only [Act.put, List.setIfInBounds_toArray, List.set_cons_zero, List.set_cons_succ]
        replace hS := Till.list 5 hS
        refine take_w (i := 8) (v := undef) (some 60) rfl (by kernel_rfl) rfl (fun _ _ _ h => h) (Or.inr ⟨by rfl, rfl⟩) hS ?_
        try simp only [Act.put, List.setIfInBounds_toArray, List.set_cons_zero, List.set_cons_succ]
        replace hS := Till.list 8 hS
        refine take_w (i := 9) (v := ?_) (some 61) rfl (by kernel_rfl) rfl (fun _ _ _ h => h) (Or.inl ⟨by rfl, ?_⟩) hS ?_
        rotate_left
        · (intro wq hq; go_simp); first | done | with_reducible rfl
        try simp only [Act.put, List.setIfInBounds_toArray, List.set_cons_zero, List.set_cons_succ]
        replace hS := Till.list 9 hS
        refine done_g (by kernel_rfl) (NoPanic.normal ?_) _
        clear hS
        go_wp2_with fail
        go_ret2
        exact TakeT.none HF.out hbel.drew
      have HPB := Lib.hid (putT_bytes (l := p) (by rw [TV.len vo]; omega))
      by_cases hp : putT p = zs
      · have HP := Lib.hid hp
        rw [← hp] at hv
        clear hp hu hA
        have hst := str_beq HPB.out HPB.out
        go_wp2_with fail
        refine wp_region_noPanic ?_
        refine region_g 10 (Ext (World.drew _)) (by kernel_rfl) (Ext.refl _) (fun hS => ?_)
        refine take_w (i := 0) (v := ?_) (some 52) rfl (by kernel_rfl) rfl (fun _ _ _ h => h) (Or.inl ⟨by rfl, ?_⟩) hS ?_
        rotate_left
        · (intro wq hq; go_simp); first | done | with_reducible rfl
        try simp only [Act.put, List.setIfInBounds_toArray, List.set_cons_zero, List.set_cons_succ]
        replace hS := Till.list 0 hS
        refine take_w (i := 1) (v := ?_) (some 53) rfl (by kernel_rfl) rfl (fun _ _ _ h => h) (Or.inl ⟨by rfl, ?_⟩) hS ?_
        rotate_left
        · (intro wq hq; go_simp); first | done | with_reducible rfl
        try simp only [Act.put, List.setIfInBounds_toArray, List.set_cons_zero, List.set_cons_succ]
        replace hS := Till.list 1 hS
        refine take_w (i := 2) (v := ?_) (some 54) rfl (by kernel_rfl) rfl (fun _ _ _ h => h) (Or.inl ⟨by rfl, ?_⟩) hS ?_
        rotate_left
        · (intro wq hq; go_simp); first | done | with_reducible rfl
        try simp only [Act.put, List.setIfInBounds_toArray, List.set_cons_zero, List.set_cons_succ]
        replace hS := Till.list 2 hS
        refine take_w (i := 3) (v := ?_) (some 55) rfl (by kernel_rfl) rfl (fun _ _ _ h => h) (Or.inl ⟨by rfl, ?_⟩) hS ?_
        rotate_left
        · (intro wq hq; go_simp); first | done | with_reducible rfl
        try simp only [Act.put, List.setIfInBounds_toArray, List.set_cons_zero, List.set_cons_succ]
        replace hS := Till.list 3 hS
        refine take_w (i := 6) (v := ?_) (some 58) rfl (by kernel_rfl) rfl (fun _ _ _ h => h) (Or.inl ⟨by rfl, ?_⟩) hS ?_
        rotate_left
        · (intro wq hq; go_simp); first | done | with_reducible rfl
        try simp only [Act.put, List.setIfInBounds_toArray, List.set_cons_zero, List.set_cons_succ]
        replace hS := Till.list 6 hS
        refine take_n (i := 7) (v := .string (strOfNums (putT p))) (some 59) rfl (by kernel_rfl) rfl (fun _ _ _ h => h) (Or.inl ⟨by rfl, ?_⟩) hS ?_
        · (intro wq hq; (have hcv := conv_any (hv.ext hq) c; go_simp))
        try simp only [Act.put, List.setIfInBounds_toArray, List.set_cons_zero, List.set_cons_succ]
        replace hS := Till.list 7 hS
        refine ready_g (rs := [4]) (by kernel_rfl) (by simp) ?_
        refine AllReadyG.cons rfl (fun Kont hK => ?_) AllReadyG.nil
        go_simp
        refine (rputT_any _ _ _ p _ vo.drew hi.sm hN2).mono ?_
        rintro e w4 ⟨vp, rfl, op, hb4⟩
        obtain ⟨ap, cp, rfl, -, -, bp, -⟩ := op.bvn HPB.out _ rfl
        have hb5 := Below.then hbel.drew hb4
        have vo4 := vo.drew.below hb4
        refine hK.out _ _ (Or.inr ((hS.get (by kernel_rfl)).trans (Ext.below hb4))) (fun hS0 => ?_)
        clear hK Kont
        try simp only [Act.put, List.setIfInBounds_toArray, List.set_cons_zero, List.set_cons_succ]
        clear hS
        refine now_t (by kernel_rfl) hS0 (fun hS => ?_)
        clear hS0
        refine take_n (i := 5) (v := .string (strOfNums (putT p))) (some 57) rfl (by kernel_rfl) rfl (fun _ _ _ h => h) (Or.inl ⟨by rfl, ?_⟩) hS ?_
        · (intro wq hq; (have hcv := conv_any (bp.ext hq) cp; go_simp))
        try simp only [Act.put, List.setIfInBounds_toArray, List.set_cons_zero, List.set_cons_succ]
        replace hS := Till.list 5 hS
        refine take_w (i := 8) (v := ?_) (some 60) rfl (by kernel_rfl) rfl (fun _ _ _ h => h) (Or.inl ⟨by rfl, ?_⟩) hS ?_
        rotate_left
        · (intro wq hq; go_simp); first | done | with_reducible rfl
        try simp only [Act.put, List.setIfInBounds_toArray, List.set_cons_zero, List.set_cons_succ]
        replace hS := Till.list 8 hS
        refine take_w (i := 9) (v := ?_) (some 61) rfl (by kernel_rfl) rfl (fun _ _ _ h => h) (Or.inl ⟨by rfl, ?_⟩) hS ?_
        rotate_left
        · (intro wq hq; go_simp); first | done | with_reducible rfl
        try simp only [Act.put, List.setIfInBounds_toArray, List.set_cons_zero, List.set_cons_succ]
        replace hS := Till.list 9 hS
        refine done_g (by kernel_rfl) (NoPanic.normal ?_) _
        clear hS
        go_wp2_with fail
        go_ret2
        exact TakeT.done hC hN2 hi vo4 HP.out hb5
      · have HF : Hid (NoT zs) := Lib.hid (fun k hk h => hp (by rw [← hu k hk h]; exact h))
        have hst := str_beq HPB.out hv.2.1
        rw [decide_eq_false hp] at hst
        clear hp hu hA
        go_wp2_with fail
        refine wp_region_noPanic ?_
        refine region_g 10 (Ext (World.drew _)) (by kernel_rfl) (Ext.refl _) (fun hS => ?_)
        refine take_w (i := 0) (v := ?_) (some 52) rfl (by kernel_rfl) rfl (fun _ _ _ h => h) (Or.inl ⟨by rfl, ?_⟩) hS ?_
        rotate_left
        · (intro wq hq; go_simp); first | done | with_reducible rfl
        try simp only [Act.put, List.setIfInBounds_toArray, List.set_cons_zero, List.set_cons_succ]
        replace hS := Till.list 0 hS
        refine take_w (i := 1) (v := ?_) (some 53) rfl (by kernel_rfl) rfl (fun _ _ _ h => h) (Or.inl ⟨by rfl, ?_⟩) hS ?_
        rotate_left
        · (intro wq hq; go_simp); first | done | with_reducible rfl
        try simp only [Act.put, List.setIfInBounds_toArray, List.set_cons_zero, List.set_cons_succ]
        replace hS := Till.list 1 hS
        refine take_w (i := 2) (v := ?_) (some 54) rfl (by kernel_rfl) rfl (fun _ _ _ h => h) (Or.inl ⟨by rfl, ?_⟩) hS ?_
        rotate_left
        · (intro wq hq; go_simp); first | done | with_reducible rfl
        try simp only [Act.put, List.setIfInBounds_toArray, List.set_cons_zero, List.set_cons_succ]
        replace hS := Till.list 2 hS
        refine take_w (i := 3) (v := ?_) (some 55) rfl (by kernel_rfl) rfl (fun _ _ _ h => h) (Or.inl ⟨by rfl, ?_⟩) hS ?_
        rotate_left
        · (intro wq hq; go_simp); first | done | with_reducible rfl
        try simp only [Act.put, List.setIfInBounds_toArray, List.set_cons_zero, List.set_cons_succ]
        replace hS := Till.list 3 hS
        refine take_w (i := 6) (v := ?_) (some 58) rfl (by kernel_rfl) rfl (fun _ _ _ h => h) (Or.inl ⟨by rfl, ?_⟩) hS ?_
        rotate_left
        · (intro wq hq; go_simp); first | done | with_reducible rfl
        try simp only [Act.put, List.setIfInBounds_toArray, List.set_cons_zero, List.set_cons_succ]
        replace hS := Till.list 6 hS
        refine take_n (i := 7) (v := .string (strOfNums zs)) (some 59) rfl (by kernel_rfl) rfl (fun _ _ _ h => h) (Or.inl ⟨by rfl, ?_⟩) hS ?_
        · (intro wq hq; (have hcv := conv_any (hv.ext hq) c; go_simp))
        try simp only [Act.put, List.setIfInBounds_toArray, List.set_cons_zero, List.set_cons_succ]
        replace hS := Till.list 7 hS
        refine ready_g (rs := [4]) (by kernel_rfl) (by simp) ?_
        refine AllReadyG.cons rfl (fun Kont hK => ?_) AllReadyG.nil
        go_simp
        refine (rputT_any _ _ _ p _ vo.drew hi.sm hN2).mono ?_
        rintro e w4 ⟨vp, rfl, op, hb4⟩
        obtain ⟨ap, cp, rfl, -, -, bp, -⟩ := op.bvn HPB.out _ rfl
        have hb5 := Below.then hbel.drew hb4
        refine hK.out _ _ (Or.inr ((hS.get (by kernel_rfl)).trans (Ext.below hb4))) (fun hS0 => ?_)
        clear hK Kont
        try simp only [Act.put, List.setIfInBounds_toArray, List.set_cons_zero, List.set_cons_succ]
        clear hS
        refine now_t (by kernel_rfl) hS0 (fun hS => ?_)
        clear hS0
        refine take_n (i := 5) (v := .string (strOfNums (putT p))) (some 57) rfl (by kernel_rfl) rfl (fun _ _ _ h => h) (Or.inl ⟨by rfl, ?_⟩) hS ?_
        · (intro wq hq; (have hcv := conv_any (bp.ext hq) cp; go_simp))
        try simp only [Act.put, List.setIfInBounds_toArray, List.set_cons_zero, List.set_cons_succ]
        replace hS := Till.list 5 hS
        refine take_w (i := 8) (v := ?_) (some 60) rfl (by kernel_rfl) rfl (fun _ _ _ h => h) (Or.inl ⟨by rfl, ?_⟩) hS ?_
        rotate_left
        · (intro wq hq; go_simp); first | done | with_reducible rfl
        try simp only [Act.put, List.setIfInBounds_toArray, List.set_cons_zero, List.set_cons_succ]
        replace hS := Till.list 8 hS
        refine take_w (i := 9) (v := ?_) (some 61) rfl (by kernel_rfl) rfl (fun _ _ _ h => h) (Or.inl ⟨by rfl, ?_⟩) hS ?_
        rotate_left
        · (intro wq hq; go_simp); first | done | with_reducible rfl
        try simp only [Act.put, List.setIfInBounds_toArray, List.set_cons_zero, List.set_cons_succ]
        replace hS := Till.list 9 hS
        refine done_g (by kernel_rfl) (NoPanic.normal ?_) _
        clear hS
        go_wp2_with fail
        go_ret2
        exact TakeT.none HF.out hb5
    · have h1b : (x == 1) = false := by rw [beq_eq_false_iff_ne]; exact h1
      have hA := hW.all hb1 hN (zs := zs) (fun k hk hp => by
        by_cases h0 : x = 0
        · subst h0; exact wayT0 HRR.out hN hk hp
        · have h3 := (putT_of (c := (N : Int)) (by omega) HRR.out hk hp).2
          unfold bodyT at h3
          split at h3
          · rw [List.cons.injEq] at h3; exact absurd h3.1.symm h1
          · rw [List.cons.injEq] at h3; exact absurd h3.1.symm h0)
      have hb3 := Below.refl w2.heap.size w2
      clear hW hb1 hb2 bv1 hsl1 h1
      replace hv := hv.below hb3
      rcases hA.two with ⟨rfl, p, hC, hN2, hi, vo, hu, hbel⟩ | ⟨rfl, hno, hbel⟩
      rotate_left
      · have HF := Lib.hid hno
        clear hno hA
        go_wp2_with fail
        refine wp_region_noPanic ?_
        refine region_g 10 (Ext (World.drew _)) (by kernel_rfl) (Ext.refl _) (fun hS => ?_)
        refine take_w (i := 0) (v := ?_) (some 52) rfl (by kernel_rfl) rfl (fun _ _ _ h => h) (Or.inl ⟨by rfl, ?_⟩) hS ?_
        rotate_left
        · (intro wq hq; go_simp); first | done | with_reducible rfl
        try simp only [Act.put, List.setIfInBounds_toArray, List.set_cons_zero, List.set_cons_succ]
        replace hS := Till.list 0 hS
        refine take_w (i := 1) (v := ?_) (some 53) rfl (by kernel_rfl) rfl (fun _ _ _ h => h) (Or.inl ⟨by rfl, ?_⟩) hS ?_
        rotate_left
        · (intro wq hq; go_simp); first | done | with_reducible rfl
        try simp only [Act.put, List.setIfInBounds_toArray, List.set_cons_zero, List.set_cons_succ]
        replace hS := Till.list 1 hS
        refine take_w (i := 2) (v := ?_) (some 54) rfl (by kernel_rfl) rfl (fun _ _ _ h => h) (Or.inl ⟨by rfl, ?_⟩) hS ?_
        rotate_left
        · (intro wq hq; go_simp); first | done | with_reducible rfl
        try simp only [Act.put, List.setIfInBounds_toArray, List.set_cons_zero, List.set_cons_succ]
        replace hS := Till.list 2 hS
        refine take_w (i := 3) (v := undef) (some 55) rfl (by kernel_rfl) rfl (fun _ _ _ h => h) (Or.inr ⟨by rfl, rfl⟩) hS ?_
        try simp only [Act.put, List.setIfInBounds_toArray, List.set_cons_zero, List.set_cons_succ]
        replace hS := Till.list 3 hS
        refine take_w (i := 6) (v := undef) (some 58) rfl (by kernel_rfl) rfl (fun _ _ _ h => h) (Or.inr ⟨by rfl, rfl⟩) hS ?_
        try simp only [Act.put, List.setIfInBounds_toArray, List.set_cons_zero, List.set_cons_succ]
        replace hS := Till.list 6 hS
        refine take_w (i := 4) (v := undef) (some 56) rfl (by kernel_rfl) rfl (fun _ _ _ h => h) (Or.inr ⟨by rfl, rfl⟩) hS ?_
        try simp only [Act.put, List.setIfInBounds_toArray, List.set_cons_zero, List.set_cons_succ]
        replace hS := Till.list 4 hS
        refine take_w (i := 7) (v := undef) (some 59) rfl (by kernel_rfl) rfl (fun _ _ _ h => h) (Or.inr ⟨by rfl, rfl⟩) hS ?_
        try simp only [Act.put, List.setIfInBounds_toArray, List.set_cons_zero, List.set_cons_succ]
        replace hS := Till.list 7 hS
        refine take_w (i := 5) (v := undef) (some 57) rfl (by kernel_rfl) rfl (fun _ _ _ h => h) (Or.inr ⟨by rfl, rfl⟩) hS ?_
        try simp only [Act.put, List.setIfInBounds_toArray, List.set_cons_zero, List.set_cons_succ]
        replace hS := Till.list 5 hS
        refine take_w (i := 8) (v := undef) (some 60) rfl (by kernel_rfl) rfl (fun _ _ _ h => h) (Or.inr ⟨by rfl, rfl⟩) hS ?_
        try simp only [Act.put, List.setIfInBounds_toArray, List.set_cons_zero, List.set_cons_succ]
        replace hS := Till.list 8 hS
        refine take_w (i := 9) (v := ?_) (some 61) rfl (by kernel_rfl) rfl (fun _ _ _ h => h) (Or.inl ⟨by rfl, ?_⟩) hS ?_
        rotate_left
        · (intro wq hq; go_simp); first | done | with_reducible rfl
        try simp only [Act.put, List.setIfInBounds_toArray, List.set_cons_zero, List.set_cons_succ]
        replace hS := Till.list 9 hS
        refine done_g (by kernel_rfl) (NoPanic.normal ?_) _
        clear hS
        go_wp2_with fail
        go_ret2
        exact TakeT.none HF.out hbel.drew
      have HPB := Lib.hid (putT_bytes (l := p) (by rw [TV.len vo]; omega))
      by_cases hp : putT p = zs
      · have HP := Lib.hid hp
        rw [← hp] at hv
        clear hp hu hA
        have hst := str_beq HPB.out HPB.out
        go_wp2_with fail
        refine wp_region_noPanic ?_
        refine region_g 10 (Ext (World.drew _)) (by kernel_rfl) (Ext.refl _) (fun hS => ?_)
        refine take_w (i := 0) (v := ?_) (some 52) rfl (by kernel_rfl) rfl (fun _ _ _ h => h) (Or.inl ⟨by rfl, ?_⟩) hS ?_
        rotate_left
        · (intro wq hq; go_simp); first | done | with_reducible rfl
        try simp only [Act.put, List.setIfInBounds_toArray, List.set_cons_zero, List.set_cons_succ]
        replace hS := Till.list 0 hS
        refine take_w (i := 1) (v := ?_) (some 53) rfl (by kernel_rfl) rfl (fun _ _ _ h => h) (Or.inl ⟨by rfl, ?_⟩) hS ?_
        rotate_left
        · (intro wq hq; go_simp); first | done | with_reducible rfl
        try simp only [Act.put, List.setIfInBounds_toArray, List.set_cons_zero, List.set_cons_succ]
        replace hS := Till.list 1 hS
        refine take_w (i := 2) (v := ?_) (some 54) rfl (by kernel_rfl) rfl (fun _ _ _ h => h) (Or.inl ⟨by rfl, ?_⟩) hS ?_
        rotate_left
        · (intro wq hq; go_simp); first | done | with_reducible rfl
        try simp only [Act.put, List.setIfInBounds_toArray, List.set_cons_zero, List.set_cons_succ]
        replace hS := Till.list 2 hS
        refine take_w (i := 3) (v := ?_) (some 55) rfl (by kernel_rfl) rfl (fun _ _ _ h => h) (Or.inl ⟨by rfl, ?_⟩) hS ?_
        rotate_left
        · (intro wq hq; go_simp); first | done | with_reducible rfl
        try simp only [Act.put, List.setIfInBounds_toArray, List.set_cons_zero, List.set_cons_succ]
        replace hS := Till.list 3 hS
        refine take_w (i := 6) (v := ?_) (some 58) rfl (by kernel_rfl) rfl (fun _ _ _ h => h) (Or.inl ⟨by rfl, ?_⟩) hS ?_
        rotate_left
        · (intro wq hq; go_simp); first | done | with_reducible rfl
        try simp only [Act.put, List.setIfInBounds_toArray, List.set_cons_zero, List.set_cons_succ]
        replace hS := Till.list 6 hS
        refine take_n (i := 7) (v := .string (strOfNums (putT p))) (some 59) rfl (by kernel_rfl) rfl (fun _ _ _ h => h) (Or.inl ⟨by rfl, ?_⟩) hS ?_
        · (intro wq hq; (have hcv := conv_any (hv.ext hq) c; go_simp))
        try simp only [Act.put, List.setIfInBounds_toArray, List.set_cons_zero, List.set_cons_succ]
        replace hS := Till.list 7 hS
        refine ready_g (rs := [4]) (by kernel_rfl) (by simp) ?_
        refine AllReadyG.cons rfl (fun Kont hK => ?_) AllReadyG.nil
        go_simp
        refine (rputT_any _ _ _ p _ vo.drew hi.sm hN2).mono ?_
        rintro e w4 ⟨vp, rfl, op, hb4⟩
        obtain ⟨ap, cp, rfl, -, -, bp, -⟩ := op.bvn HPB.out _ rfl
        have hb5 := Below.then hbel.drew hb4
        have vo4 := vo.drew.below hb4
        refine hK.out _ _ (Or.inr ((hS.get (by kernel_rfl)).trans (Ext.below hb4))) (fun hS0 => ?_)
        clear hK Kont
        try simp only [Act.put, List.setIfInBounds_toArray, List.set_cons_zero, List.set_cons_succ]
        clear hS
        refine now_t (by kernel_rfl) hS0 (fun hS => ?_)
        clear hS0
        refine take_n (i := 5) (v := .string (strOfNums (putT p))) (some 57) rfl (by kernel_rfl) rfl (fun _ _ _ h => h) (Or.inl ⟨by rfl, ?_⟩) hS ?_
        · (intro wq hq; (have hcv := conv_any (bp.ext hq) cp; go_simp))
        try simp only [Act.put, List.setIfInBounds_toArray, List.set_cons_zero, List.set_cons_succ]
        replace hS := Till.list 5 hS
        refine take_w (i := 8) (v := ?_) (some 60) rfl (by kernel_rfl) rfl (fun _ _ _ h => h) (Or.inl ⟨by rfl, ?_⟩) hS ?_
        rotate_left
        · (intro wq hq; go_simp); first | done | with_reducible rfl
        try simp only [Act.put, List.setIfInBounds_toArray, List.set_cons_zero, List.set_cons_succ]
        replace hS := Till.list 8 hS
        refine take_w (i := 9) (v := ?_) (some 61) rfl (by kernel_rfl) rfl (fun _ _ _ h => h) (Or.inl ⟨by rfl, ?_⟩) hS ?_
        rotate_left
        · (intro wq hq; go_simp); first | done | with_reducible rfl
        try simp only [Act.put, List.setIfInBounds_toArray, List.set_cons_zero, List.set_cons_succ]
        replace hS := Till.list 9 hS
        refine done_g (by kernel_rfl) (NoPanic.normal ?_) _
        clear hS
        go_wp2_with fail
        go_ret2
        exact TakeT.done hC hN2 hi vo4 HP.out hb5
      · have HF : Hid (NoT zs) := Lib.hid (fun k hk h => hp (by rw [← hu k hk h]; exact h))
        have hst := str_beq HPB.out hv.2.1
        rw [decide_eq_false hp] at hst
        clear hp hu hA
        go_wp2_with fail
        refine wp_region_noPanic ?_
        refine region_g 10 (Ext (World.drew _)) (by kernel_rfl) (Ext.refl _) (fun hS => ?_)
        refine take_w (i := 0) (v := ?_) (some 52) rfl (by kernel_rfl) rfl (fun _ _ _ h => h) (Or.inl ⟨by rfl, ?_⟩) hS ?_
        rotate_left
        · (intro wq hq; go_simp); first | done | with_reducible rfl
        try simp only [Act.put, List.setIfInBounds_toArray, List.set_cons_zero, List.set_cons_succ]
        replace hS := Till.list 0 hS
        refine take_w (i := 1) (v := ?_) (some 53) rfl (by kernel_rfl) rfl (fun _ _ _ h => h) (Or.inl ⟨by rfl, ?_⟩) hS ?_
        rotate_left
        · (intro wq hq; go_simp); first | done | with_reducible rfl
        try simp only [Act.put, List.setIfInBounds_toArray, List.set_cons_zero, List.set_cons_succ]
        replace hS := Till.list 1 hS
        refine take_w (i := 2) (v := ?_) (some 54) rfl (by kernel_rfl) rfl (fun _ _ _ h => h) (Or.inl ⟨by rfl, ?_⟩) hS ?_
        rotate_left
        · (intro wq hq; go_simp); first | done | with_reducible rfl
        try simp only [Act.put, List.setIfInBounds_toArray, List.set_cons_zero, List.set_cons_succ]
        replace hS := Till.list 2 hS
        refine take_w (i := 3) (v := ?_) (some 55) rfl (by kernel_rfl) rfl (fun _ _ _ h => h) (Or.inl ⟨by rfl, ?_⟩) hS ?_
        rotate_left
        · (intro wq hq; go_simp); first | done | with_reducible rfl
        try simp only [Act.put, List.setIfInBounds_toArray, List.set_cons_zero, List.set_cons_succ]
        replace hS := Till.list 3 hS
        refine take_w (i := 6) (v := ?_) (some 58) rfl (by kernel_rfl) rfl (fun _ _ _ h => h) (Or.inl ⟨by rfl, ?_⟩) hS ?_
        rotate_left
        · (intro wq hq; go_simp); first | done | with_reducible rfl
        try simp only [Act.put, List.setIfInBounds_toArray, List.set_cons_zero, List.set_cons_succ]
        replace hS := Till.list 6 hS
        refine take_n (i := 7) (v := .string (strOfNums zs)) (some 59) rfl (by kernel_rfl) rfl (fun _ _ _ h => h) (Or.inl ⟨by rfl, ?_⟩) hS ?_
        · (intro wq hq; (have hcv := conv_any (hv.ext hq) c; go_simp))
        try simp only [Act.put, List.setIfInBounds_toArray, List.set_cons_zero, List.set_cons_succ]
        replace hS := Till.list 7 hS
        refine ready_g (rs := [4]) (by kernel_rfl) (by simp) ?_
        refine AllReadyG.cons rfl (fun Kont hK => ?_) AllReadyG.nil
        go_simp
        refine (rputT_any _ _ _ p _ vo.drew hi.sm hN2).mono ?_
        rintro e w4 ⟨vp, rfl, op, hb4⟩
        obtain ⟨ap, cp, rfl, -, -, bp, -⟩ := op.bvn HPB.out _ rfl
        have hb5 := Below.then hbel.drew hb4
        refine hK.out _ _ (Or.inr ((hS.get (by kernel_rfl)).trans (Ext.below hb4))) (fun hS0 => ?_)
        clear hK Kont
        try simp only [Act.put, List.setIfInBounds_toArray, List.set_cons_zero, List.set_cons_succ]
        clear hS
        refine now_t (by kernel_rfl) hS0 (fun hS => ?_)
        clear hS0
        refine take_n (i := 5) (v := .string (strOfNums (putT p))) (some 57) rfl (by kernel_rfl) rfl (fun _ _ _ h => h) (Or.inl ⟨by rfl, ?_⟩) hS ?_
        · (intro wq hq; (have hcv := conv_any (bp.ext hq) cp; go_simp))
        try simp only [Act.put, List.setIfInBounds_toArray, List.set_cons_zero, List.set_cons_succ]
        replace hS := Till.list 5 hS
        refine take_w (i := 8) (v := ?_) (some 60) rfl (by kernel_rfl) rfl (fun _ _ _ h => h) (Or.inl ⟨by rfl, ?_⟩) hS ?_
        rotate_left
        · (intro wq hq; go_simp); first | done | with_reducible rfl
        try simp only [Act.put, List.setIfInBounds_toArray, List.set_cons_zero, List.set_cons_succ]
        replace hS := Till.list 8 hS
        refine take_w (i := 9) (v := ?_) (some 61) rfl (by kernel_rfl) rfl (fun _ _ _ h => h) (Or.inl ⟨by rfl, ?_⟩) hS ?_
        rotate_left
        · (intro wq hq; go_simp); first | done | with_reducible rfl
        try simp only [Act.put, List.setIfInBounds_toArray, List.set_cons_zero, List.set_cons_succ]
        replace hS := Till.list 9 hS
        refine done_g (by kernel_rfl) (NoPanic.normal ?_) _
        clear hS
        go_wp2_with fail
        go_ret2
        exact TakeT.none HF.out hb5
end Go.Proofs.Ytmoppmifhhnolaa
