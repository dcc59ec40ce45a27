/-
  PartRefuses: for every shape, every list of rows and every number the statement's function returns true, and its arguments read as they did. No condition.
-/
import Derived.Test.YtbfihajgjbpmaaaGreatPrtE
import Derived.Test.YtbfihajgjbpmaaaGreatRows
import Derived.WalkKit
import Derived.ProofKit
import Derived.OpenShut
import Derived.ShutString
import Derived.ChangeOld
import Derived.Below
import Derived.Test.YtbfihajgjbpmaaaGreatSchC
import Derived.Test.YtbfihajgjbpmaaaGreatBase
/- PartRefuses: the walk. -/
namespace Go.Proofs.YtbfihajgjbpmaaaGreat
open Go.ChangeShapes Go.WideShapes Go.ChangeAt Go.RowKit
set_option linter.unusedVariables false
set_option maxRecDepth 4000

theorem WriteE.err {w w' : World} {ts : List Int} {k m g : Int} {l : List RowV} {e : Ending} (h : WriteE w w' ts k m g l e) : ∃ v, e = .returned (.tuple #[v, .int .i64 (chE ts k m g l)]) ∧ Below w.heap.size w w' := by
  rcases h with ⟨h0, v, rfl, -, hb⟩ | ⟨-, rfl, hb⟩
  · exact ⟨v, by rw [h0], hb⟩
  · exact ⟨_, rfl, hb⟩
/-- a row without its first value -/
theorem row_tail {w : World} {A : Option Addr} {L C : Nat} {vs : RowV} {F : Nat → Prop} (h : rowRep.rep w (.slice A L C) vs F) (hL : 1 ≤ L) :
    ∃ a', (∀ wx, (Instr.slice 46 (.slice A L C) (some (.int .i64 1)) none none).run Tryz.prog wx = .ok (.slice a' (L - 1) (C - 1)) wx) ∧ rowRep.rep w (.slice a' (L - 1) (C - 1)) (vs.drop 1) F := by
  obtain ⟨⟨A', L', C', e, h1, h2, h3, h4, h5⟩, ho⟩ := h
  cases e
  have hA : A ≠ none := fun e => by have := h5 e; omega
  refine ⟨if C = 1 then A else Option.map (fun x => x.add (1 * 2)) A, fun wx => ?_, ⟨_, _, _, rfl, by omega, by omega, by rw [List.length_drop, h3], ?_, fun ha => ?_⟩, fun A2 L2 C2 e => ?_⟩
  · rw [run_slice_l wx 46 A L C slA_row.under .i64 1 (by omega) (by omega), slA_row.size]
    simp only [Result.andThen, sliced]
    rfl
  · have := h4.cutA 1 C hL h1
    rw [show (vcells vs).drop (1 * 2) = vcells (vs.drop 1) from (vcells_drop vs 1).symm] at this
    exact this
  · exfalso
    split at ha
    · exact hA ha
    · exact hA (Option.map_eq_none_iff.1 ha)
  · cases e
    rcases ho A L C rfl with h0 | hF
    · omega
    · refine .inr fun x hx => ?_
      split at hx
      · exact hF x hx
      · obtain ⟨y, hy, rfl⟩ := Option.map_eq_some_iff.1 hx
        have := hF y hy
        unfold Addr.add
        split <;> exact this
theorem rowB_off {ts : List Int} {v : RowV} (h : v.length ≠ ts.length) : rowB ts v = false := by
  cases hb : rowB ts v
  · rfl
  · exact absurd (rowB_len ts v hb) h
theorem pc_set {ps : List P9} {i : Nat} (q : P9) : (pc ps).set i (sV q.1) = pc (ps.set i q) := by
  unfold pc; rw [List.map_set]
theorem map_set2 {ps : List P9} {i : Nat} (q : P9) : (ps.set i q).map (·.2) = (ps.map (·.2)).set i q.2 := List.map_set
/-- rows that lie below some block -/
theorem PR.old {w : World} {ps : List P9} (h : PR w ps) : ∀ p ∈ ps, rowRep.rep w (sV p.1) p.2 (fun b => b < w.heap.size) := fun p hp => rowRep.old (rowRep.any (h p hp))
set_option maxHeartbeats 16000000 in
theorem refusesB_is {l0 l1 l2 l3 l4 l5 l6 l7 n keys mode grain : Int} (h : ShW l0 l1 l2 l3 l4 l5 l6 l7 n keys mode grain) (R : Option Addr) (nr cr : Nat) (vss : List RowV) (at0 : Int) (w : World)
    (hr : RVs w R nr vss) (hnr : nr ≤ maxLen) (hg : ∀ v ∈ vss, RgV v) (h0 : 0 ≤ at0 ∧ at0 ≤ 255) :
    Calls Tryz.prog 6 #[ShV l0 l1 l2 l3 l4 l5 l6 l7 n keys mode grain, .slice R nr cr, .int .u8 at0] w fun e w' => e = .returned (.bool true) ∧ Below w.heap.size w w' := by
  go_enter Tryz.func6, Tryz.ntmps6
  go_wp2_with fail
  refine (shownB_is _).mono ?_
  rintro e w1 ⟨rfl, hb1⟩
  have t1 := (Bk.new w (shC l0 l1 l2 l3 l4 l5 l6 l7 n keys mode grain) 40).below hb1
  have hw1 := after1 hb1
  have hr := hr.below hw1
  skip
  clear hb1
  obtain ⟨⟨x0, x1, x2, x3⟩, ⟨x4, x5, x6, x7⟩, ⟨x8, x9, x10, x11⟩⟩ := t1.shape
  go_wp2_with fail
  refine (madeB_eight h _).mono ?_
  rintro e w2 ⟨A, N, C, K, m, g, ts, rfl, hk, hN, hg8, ho, hb2⟩
  clear x0 x1 x2 x3 x4 x5 x6 x7 x8 x9 x10 x11 t1
  obtain ⟨_, _, hA, hC1, hC2, hv, -⟩ := ho.sv
  cases hA
  obtain ⟨G, rfl⟩ : ∃ G : Nat, g = (G : Int) := ⟨g.toNat, by have := (check_is hk).2.2.2.2.2.2.1; omega⟩
  have hG : 1 ≤ G ∧ G ≤ 64 := by have h1 := (check_is hk).2.2.2.2.2.2.1; have h2 := (check_is hk).2.2.2.2.2.2.2.1; omega
  have hkk := Lib.hid (MadeG.keys hk)
  have hty : Hid (Ty ts) := Lib.hid (check_is hk).2.2.2.2.2.2.2.2
  have hlt := Lib.hid (IV.len hv)
  have HCK := Lib.hid hk
  have HG8 : Hid (G ≤ 8) := Lib.hid (by omega)
  clear hg8
  have hx := Sx.new w2 A N C K m (G : Int) 24
  have hr := (hr.below hb2).alloc (.cells #[.slice A N C, .int .i64 K, .int .i64 m, .int .i64 (G : Int)] 24)
  have hv := hv.alloc (.cells #[.slice A N C, .int .i64 K, .int .i64 m, .int .i64 (G : Int)] 24)
  have hw := (Below.then hw1 hb2).alloc (by have := (Below.then hw1 hb2).size; omega) (.cells #[.slice A N C, .int .i64 K, .int .i64 m, .int .i64 (G : Int)] 24)
  skip
  have hN1 : N ≤ maxLen := few_max (by omega)
  have hK1 : K ≤ maxLen := few_max (by have := hkk.out; omega)
  go_wp2_with fail
  generalize w2.alloc (.cells #[.slice A N C, .int .i64 K, .int .i64 m, .int .i64 (G : Int)] 24) = w3 at *
  generalize w2.heap.size = bs at *
  clear ho hb2 hw1 hk
  have HRG : Hid (∀ v ∈ ([] : RowV) :: fewR vss, RgV v) := Lib.hid (fun v hv => by
    rcases List.mem_cons.1 hv with rfl | hv
    · exact fun x hx => by cases hx
    · exact fewR_rg hg v hv)
  obtain ⟨c0, c1, c2, c3⟩ := id hx
  go_cut [9] (fun v wx => ∃ (a : Option Addr) (j c : Nat) (l : List RowV), v = .slice a j c ∧ RVs wx a j l ∧ 1 ≤ j ∧ j ≤ 40 ∧ Hid (∀ v ∈ l, FR ts v) ∧ Below w3.heap.size w3 wx)
  case first => as_aux_lemma =>
    refine wp_region_noPanic ?_
    refine region_g 6 (Ext (World.drew _)) (by kernel_rfl) (Ext.refl _) (fun hS => ?_)
    refine take_g (i := 0) (v := ?_) [0] (some 28) rfl (by kernel_rfl) rfl (fun _ _ _ h => h) (Or.inl ⟨by rfl, ?_⟩) hS ?_
    rotate_left
    · (intro wq hq; have q0 := hq _ _ _ c0; have q1 := hq _ _ _ c1; have q2 := hq _ _ _ c2; have q3 := hq _ _ _ c3; go_simp); first | done | with_reducible rfl
    try simp only [Act.put, List.setIfInBounds_toArray, List.set_cons_zero, List.set_cons_succ]
    replace hS := Till.list 0 hS
    refine take_w (i := 3) (v := ?_) (some 31) rfl (by kernel_rfl) rfl (fun _ _ _ h => h) (Or.inl ⟨by rfl, ?_⟩) hS ?_
    rotate_left
    · (intro wq hq; go_simp); first | done | with_reducible rfl
    try simp only [Act.put, List.setIfInBounds_toArray, List.set_cons_zero, List.set_cons_succ]
    replace hS := Till.list 3 hS
    refine ready_g (rs := [1, 4]) (by kernel_rfl) (by simp) ?_
    refine (AllReadyG.cons rfl (fun Kont hK => ?_) (AllReadyG.cons rfl (fun Kont hK => ?_) AllReadyG.nil))
    · skip
      go_simp
      refine hK.out _ _ (Or.inr ((hS.get (by kernel_rfl)).alloc _)) (fun hS0 => ?_)
      clear hK Kont
      try simp only [Act.put, List.setIfInBounds_toArray, List.set_cons_zero, List.set_cons_succ]
      clear hS
      have hS := hS0
      clear hS0
      refine ready_g (rs := [2, 4]) (by kernel_rfl) (by simp) ?_
      refine (AllReadyG.cons rfl (fun Kont hK => ?_) (AllReadyG.cons rfl (fun Kont hK => ?_) AllReadyG.nil))
      · skip
        go_simp
        refine hK.out _ _ (Or.inr ((hS.get (by kernel_rfl)).alloc _)) (fun hS0 => ?_)
        clear hK Kont
        try simp only [Act.put, List.setIfInBounds_toArray, List.set_cons_zero, List.set_cons_succ]
        clear hS
        have hS := hS0
        clear hS0
        refine ready_g (rs := [4]) (by kernel_rfl) (by simp) ?_
        refine AllReadyG.cons rfl (fun Kont hK => ?_) AllReadyG.nil
        go_simp
        refine (fewB_any R nr cr vss _ (((hr.alloc (.cells #[] 62)).alloc (.cells #[.slice (some ⟨w3.heap.size, 0, none⟩) 0 0] 46)).below (Below.refl _ _).drew) hnr).mono ?_
        rintro e w5 ⟨j5, v5, rfl, hj5, of5, hbf⟩
        obtain ⟨A5, C5, rfl, rf5⟩ := of5.rvs
        have bk5 := Bk.below (w := ((w3.alloc (.cells #[] 62)).alloc (.cells #[.slice (some ⟨w3.heap.size, 0, none⟩) 0 0] 46)).drew) (Bk.new (w3.alloc (.cells #[] 62)) #[.slice (some ⟨w3.heap.size, 0, none⟩) 0 0] 46) hbf
        rw [heap_alloc] at bk5
        have ho5 := OS.below (w := ((w3.alloc (.cells #[] 62)).alloc (.cells #[.slice (some ⟨w3.heap.size, 0, none⟩) 0 0] 46)).drew) (OS.lit (k := 1) (w3.alloc (.cells #[] 62)) w3.heap.size (by simp) [.slice (some ⟨w3.heap.size, 0, none⟩) 0 0] 1 46 rfl (by simp [Value.oneCell']) (few_max (by omega)) (w3.heap.size + 1) (by simp)) hbf
        have hb5 : Below w3.heap.size w3 w5 := Below.then (Joins.below_alloc2 w3 (.cells #[] 62) (.cells #[.slice (some ⟨w3.heap.size, 0, none⟩) 0 0] 46)).drew hbf
        refine hK.out _ _ (Or.inr ((hS.get (by kernel_rfl)).trans (Ext.below hbf))) (fun hS0 => ?_)
        clear hK Kont
        try simp only [Act.put, List.setIfInBounds_toArray, List.set_cons_zero, List.set_cons_succ]
        clear hS
        have hS := hS0
        clear hS0
        clear hbf of5
        refine ready_g (rs := [5]) (by kernel_rfl) (by simp) ?_
        refine AllReadyG.cons rfl (fun Kont hK => ?_) AllReadyG.nil
        refine want (by kernel_rfl) ?_
        obtain ⟨qs5, sq1, sq2, sq3⟩ := rf5.pairs
        refine wp_append_os2 el_rows (some 33) rfl (.tmp 30) (.tmp 32) rfl w3.heap.size _ 1 _ rfl ho5 A5 j5 C5 (pc qs5) rfl sq1 (by omega) (by omega) hb5.size ?_
        intro v6 w6 ho6 hb6 hk6 hst6
        obtain ⟨a6, c6, rfl, rv6⟩ := start_rows bk5 sq3 ho6 hst6
        rw [sq2] at rv6
        have hw6 := hb5.trans hb6
        have hv6 := hv.below hw6
        refine hK.out _ _ (Or.inr (((hS.get (by kernel_rfl)).low hb6 (Nat.le_refl _)))) (fun hS0 => ?_)
        clear hK Kont
        try simp only [Act.put, List.setIfInBounds_toArray, List.set_cons_zero, List.set_cons_succ]
        clear hS
        have hS := hS0
        clear hS0
        clear ho6 hk6 hst6 hb6 ho5 bk5 rf5 sq1 sq2 sq3 hb5
        refine ready_g (rs := [6]) (by kernel_rfl) (by simp) ?_
        refine AllReadyG.cons rfl (fun Kont hK => ?_) AllReadyG.nil
        go_simp
        refine (fits_rows A N C ts K m (G : Int) a6 (1 + j5) c6 ([] :: fewR vss) 40 w6 hv6 (by omega) rv6 (few_max (by omega)) (by omega)).mono ?_
        have hF := fitsL_fr hty.out HRG.out 40
        have hfl := fitsL_len ts ([] :: fewR vss) 40
        have hf1 := fitsL_one (ts := ts) (l := fewR vss)
        obtain ⟨fs, hfs⟩ : ∃ fs, fitsL ts ([] :: fewR vss) 40 = fs := ⟨_, rfl⟩
        rw [hfs] at hF hfl hf1 ⊢
        rintro e w7 ⟨j7, v7, rfl, hj7, o7, hb7⟩
        obtain ⟨a7, c7, rfl, rv7⟩ := o7.rvs
        have hv7 := hv6.below hb7
        have hw7 := Below.then hw6 hb7
        have hjf : Hid (j7 = fs.length) := Lib.hid (by have := rv7.1; omega)
        refine hK.out _ _ (Or.inl (by kernel_rfl)) (fun hS0 => ?_)
        clear hK Kont
        try simp only [Act.put, List.setIfInBounds_toArray, List.set_cons_zero, List.set_cons_succ]
        clear hS
        have hS := hS0
        clear hS0
        refine take_w (i := 7) (v := ?_) (some 9) rfl (by kernel_rfl) rfl (fun _ _ _ h => h) (Or.inl ⟨by rfl, ?_⟩) hS ?_
        rotate_left
        · (intro wq hq; go_simp); first | done | with_reducible rfl
        try simp only [Act.put, List.setIfInBounds_toArray, List.set_cons_zero, List.set_cons_succ]
        replace hS := Till.list 7 hS
        refine done_g (by kernel_rfl) (NoPanic.normal ?_) _
        clear hS
        clear rv6 o7
        go_wp2_with fail
        go_meet
        exact ⟨a7, j7, c7, fs, rfl, rv7, by have := hjf.out; omega, by omega, Lib.hid hF, hw7⟩
      · skip
        go_simp
        refine (fewB_any R nr cr vss _ ((hr.alloc (.cells #[] 62)).below (Below.refl _ _).drew) hnr).mono ?_
        rintro e wf ⟨j5, v5, rfl, hj5, of5, hbf⟩
        obtain ⟨A5, C5, rfl, rf5⟩ := of5.rvs
        have bk5 := Bk.new wf #[.slice (some ⟨w3.heap.size, 0, none⟩) 0 0] 46
        have hbw : Below w3.heap.size w3 wf := Below.then (Joins.below_alloc1 w3 (.cells #[] 62)).drew hbf
        have ho5 := OS.lit (k := 1) wf w3.heap.size hbw.size [.slice (some ⟨w3.heap.size, 0, none⟩) 0 0] 1 46 rfl (by simp [Value.oneCell']) (few_max (by omega)) wf.heap.size rfl
        have hb5 := hbw.alloc hbw.size (.cells #[.slice (some ⟨w3.heap.size, 0, none⟩) 0 0] 46)
        have rf5 := rf5.alloc (.cells #[.slice (some ⟨w3.heap.size, 0, none⟩) 0 0] 46)
        refine hK.out _ _ (Or.inr ((hS.get (by kernel_rfl)).trans (Ext.below hbf))) (fun hS0 => ?_)
        clear hK Kont
        try simp only [Act.put, List.setIfInBounds_toArray, List.set_cons_zero, List.set_cons_succ]
        clear hS
        have hS := hS0
        clear hS0
        clear hbf of5 hbw
        refine ready_g (rs := [2]) (by kernel_rfl) (by simp) ?_
        refine AllReadyG.cons rfl (fun Kont hK => ?_) AllReadyG.nil
        go_simp
        refine hK.out _ _ (Or.inr ((hS.get (by kernel_rfl)).alloc _)) (fun hS0 => ?_)
        clear hK Kont
        try simp only [Act.put, List.setIfInBounds_toArray, List.set_cons_zero, List.set_cons_succ]
        clear hS
        have hS := hS0
        clear hS0
        refine ready_g (rs := [5]) (by kernel_rfl) (by simp) ?_
        refine AllReadyG.cons rfl (fun Kont hK => ?_) AllReadyG.nil
        refine want (by kernel_rfl) ?_
        obtain ⟨qs5, sq1, sq2, sq3⟩ := rf5.pairs
        refine wp_append_os2 el_rows (some 33) rfl (.tmp 30) (.tmp 32) rfl w3.heap.size _ 1 _ rfl ho5 A5 j5 C5 (pc qs5) rfl sq1 (by omega) (by omega) hb5.size ?_
        intro v6 w6 ho6 hb6 hk6 hst6
        obtain ⟨a6, c6, rfl, rv6⟩ := start_rows bk5 sq3 ho6 hst6
        rw [sq2] at rv6
        have hw6 := hb5.trans hb6
        have hv6 := hv.below hw6
        refine hK.out _ _ (Or.inr (((hS.get (by kernel_rfl)).low hb6 (Nat.le_refl _)))) (fun hS0 => ?_)
        clear hK Kont
        try simp only [Act.put, List.setIfInBounds_toArray, List.set_cons_zero, List.set_cons_succ]
        clear hS
        have hS := hS0
        clear hS0
        clear ho6 hk6 hst6 hb6 ho5 bk5 rf5 sq1 sq2 sq3 hb5
        refine ready_g (rs := [6]) (by kernel_rfl) (by simp) ?_
        refine AllReadyG.cons rfl (fun Kont hK => ?_) AllReadyG.nil
        go_simp
        refine (fits_rows A N C ts K m (G : Int) a6 (1 + j5) c6 ([] :: fewR vss) 40 w6 hv6 (by omega) rv6 (few_max (by omega)) (by omega)).mono ?_
        have hF := fitsL_fr hty.out HRG.out 40
        have hfl := fitsL_len ts ([] :: fewR vss) 40
        have hf1 := fitsL_one (ts := ts) (l := fewR vss)
        obtain ⟨fs, hfs⟩ : ∃ fs, fitsL ts ([] :: fewR vss) 40 = fs := ⟨_, rfl⟩
        rw [hfs] at hF hfl hf1 ⊢
        rintro e w7 ⟨j7, v7, rfl, hj7, o7, hb7⟩
        obtain ⟨a7, c7, rfl, rv7⟩ := o7.rvs
        have hv7 := hv6.below hb7
        have hw7 := Below.then hw6 hb7
        have hjf : Hid (j7 = fs.length) := Lib.hid (by have := rv7.1; omega)
        refine hK.out _ _ (Or.inl (by kernel_rfl)) (fun hS0 => ?_)
        clear hK Kont
        try simp only [Act.put, List.setIfInBounds_toArray, List.set_cons_zero, List.set_cons_succ]
        clear hS
        have hS := hS0
        clear hS0
        refine take_w (i := 7) (v := ?_) (some 9) rfl (by kernel_rfl) rfl (fun _ _ _ h => h) (Or.inl ⟨by rfl, ?_⟩) hS ?_
        rotate_left
        · (intro wq hq; go_simp); first | done | with_reducible rfl
        try simp only [Act.put, List.setIfInBounds_toArray, List.set_cons_zero, List.set_cons_succ]
        replace hS := Till.list 7 hS
        refine done_g (by kernel_rfl) (NoPanic.normal ?_) _
        clear hS
        clear rv6 o7
        go_wp2_with fail
        go_meet
        exact ⟨a7, j7, c7, fs, rfl, rv7, by have := hjf.out; omega, by omega, Lib.hid hF, hw7⟩
    · skip
      go_simp
      refine (fewB_any R nr cr vss _ (hr.below (Below.refl _ _).drew) hnr).mono ?_
      rintro e wf ⟨j5, v5, rfl, hj5, of5, hbf⟩
      obtain ⟨A5, C5, rfl, rf5⟩ := of5.rvs
      have hbw : Below w3.heap.size w3 wf := Below.then (Below.refl w3.heap.size w3).drew hbf
      have bk5 := Bk.new (wf.alloc (.cells #[] 62)) #[.slice (some ⟨wf.heap.size, 0, none⟩) 0 0] 46
      rw [heap_alloc] at bk5
      have ho5 := OS.lit (k := 1) (wf.alloc (.cells #[] 62)) w3.heap.size (by have := hbw.size; rw [heap_alloc]; omega) [.slice (some ⟨wf.heap.size, 0, none⟩) 0 0] 1 46 rfl (by simp [Value.oneCell']) (few_max (by omega)) (wf.heap.size + 1) (by simp)
      have hb5 := (hbw.alloc hbw.size (.cells #[] 62)).alloc (by have := hbw.size; rw [heap_alloc]; omega) (.cells #[.slice (some ⟨wf.heap.size, 0, none⟩) 0 0] 46)
      have rf5 := (rf5.alloc (.cells #[] 62)).alloc (.cells #[.slice (some ⟨wf.heap.size, 0, none⟩) 0 0] 46)
      refine hK.out _ _ (Or.inr ((hS.get (by kernel_rfl)).trans (Ext.below hbf))) (fun hS0 => ?_)
      clear hK Kont
      try simp only [Act.put, List.setIfInBounds_toArray, List.set_cons_zero, List.set_cons_succ]
      clear hS
      have hS := hS0
      clear hS0
      clear hbf of5 hbw
      refine ready_g (rs := [1]) (by kernel_rfl) (by simp) ?_
      refine AllReadyG.cons rfl (fun Kont hK => ?_) AllReadyG.nil
      go_simp
      refine hK.out _ _ (Or.inr ((hS.get (by kernel_rfl)).alloc _)) (fun hS0 => ?_)
      clear hK Kont
      try simp only [Act.put, List.setIfInBounds_toArray, List.set_cons_zero, List.set_cons_succ]
      clear hS
      have hS := hS0
      clear hS0
      refine ready_g (rs := [2]) (by kernel_rfl) (by simp) ?_
      refine AllReadyG.cons rfl (fun Kont hK => ?_) AllReadyG.nil
      go_simp
      refine hK.out _ _ (Or.inr ((hS.get (by kernel_rfl)).alloc _)) (fun hS0 => ?_)
      clear hK Kont
      try simp only [Act.put, List.setIfInBounds_toArray, List.set_cons_zero, List.set_cons_succ]
      clear hS
      have hS := hS0
      clear hS0
      refine ready_g (rs := [5]) (by kernel_rfl) (by simp) ?_
      refine AllReadyG.cons rfl (fun Kont hK => ?_) AllReadyG.nil
      refine want (by kernel_rfl) ?_
      obtain ⟨qs5, sq1, sq2, sq3⟩ := rf5.pairs
      refine wp_append_os2 el_rows (some 33) rfl (.tmp 30) (.tmp 32) rfl w3.heap.size _ 1 _ rfl ho5 A5 j5 C5 (pc qs5) rfl sq1 (by omega) (by omega) hb5.size ?_
      intro v6 w6 ho6 hb6 hk6 hst6
      obtain ⟨a6, c6, rfl, rv6⟩ := start_rows bk5 sq3 ho6 hst6
      rw [sq2] at rv6
      have hw6 := hb5.trans hb6
      have hv6 := hv.below hw6
      refine hK.out _ _ (Or.inr (((hS.get (by kernel_rfl)).low hb6 (Nat.le_refl _)))) (fun hS0 => ?_)
      clear hK Kont
      try simp only [Act.put, List.setIfInBounds_toArray, List.set_cons_zero, List.set_cons_succ]
      clear hS
      have hS := hS0
      clear hS0
      clear ho6 hk6 hst6 hb6 ho5 bk5 rf5 sq1 sq2 sq3 hb5
      refine ready_g (rs := [6]) (by kernel_rfl) (by simp) ?_
      refine AllReadyG.cons rfl (fun Kont hK => ?_) AllReadyG.nil
      go_simp
      refine (fits_rows A N C ts K m (G : Int) a6 (1 + j5) c6 ([] :: fewR vss) 40 w6 hv6 (by omega) rv6 (few_max (by omega)) (by omega)).mono ?_
      have hF := fitsL_fr hty.out HRG.out 40
      have hfl := fitsL_len ts ([] :: fewR vss) 40
      have hf1 := fitsL_one (ts := ts) (l := fewR vss)
      obtain ⟨fs, hfs⟩ : ∃ fs, fitsL ts ([] :: fewR vss) 40 = fs := ⟨_, rfl⟩
      rw [hfs] at hF hfl hf1 ⊢
      rintro e w7 ⟨j7, v7, rfl, hj7, o7, hb7⟩
      obtain ⟨a7, c7, rfl, rv7⟩ := o7.rvs
      have hv7 := hv6.below hb7
      have hw7 := Below.then hw6 hb7
      have hjf : Hid (j7 = fs.length) := Lib.hid (by have := rv7.1; omega)
      refine hK.out _ _ (Or.inl (by kernel_rfl)) (fun hS0 => ?_)
      clear hK Kont
      try simp only [Act.put, List.setIfInBounds_toArray, List.set_cons_zero, List.set_cons_succ]
      clear hS
      have hS := hS0
      clear hS0
      refine take_w (i := 7) (v := ?_) (some 9) rfl (by kernel_rfl) rfl (fun _ _ _ h => h) (Or.inl ⟨by rfl, ?_⟩) hS ?_
      rotate_left
      · (intro wq hq; go_simp); first | done | with_reducible rfl
      try simp only [Act.put, List.setIfInBounds_toArray, List.set_cons_zero, List.set_cons_succ]
      replace hS := Till.list 7 hS
      refine done_g (by kernel_rfl) (NoPanic.normal ?_) _
      clear hS
      clear rv6 o7
      go_wp2_with fail
      go_meet
      exact ⟨a7, j7, c7, fs, rfl, rv7, by have := hjf.out; omega, by omega, Lib.hid hF, hw7⟩
  obtain ⟨a9, j9, c9, l, rfl, rv9, hj1, hj2, HF, hb9⟩ := hcut
  clear c0 c1 c2 c3 HRG
  have hv9 := SV.below hv hb9
  have hx9 := hx.below hb9
  have hw9 := Below.then hw hb9
  have hll := Lib.hid rv9.1
  have HRG := Lib.hid (fun r hr => RgV.of (HF.out r hr) : ∀ r ∈ l, RgV r)
  obtain ⟨c0, c1, c2, c3⟩ := id hx9
  clear hv hx hw hb9
  go_wp2_with fail
  refine (r9sorted_any A N C ts K m (G : Int) a9 j9 c9 l _ hv9 hN1 hK1 hty.out rv9 (by omega) HF.out).mono ?_
  obtain ⟨sb, hsb⟩ : ∃ sb, srtB (cN ts K) [] l = sb := ⟨_, rfl⟩
  have hce := chE_sorted HCK.out (l := l) ⟨by rw [hll.out]; exact hj1, by rw [hll.out]; omega⟩ (fun r hr => row_fr (HF.out r hr))
  rw [Int.toNat_natCast, hsb] at hce
  rw [hsb]
  obtain ⟨ce, hcc⟩ : ∃ ce, chE ts (K : Int) m (G : Int) l = ce := ⟨_, rfl⟩
  rw [hcc] at hce
  have HCC := Lib.hid hcc
  have HSB : Hid ((sb = true ∧ ce = 0) ∨ (sb = false ∧ ce = 1)) := Lib.hid (by
    cases sb
    · exact .inr ⟨rfl, hce⟩
    · exact .inl ⟨rfl, hce⟩)
  clear hsb hce hcc
  rintro e w10 ⟨rfl, hb10⟩
  have hv10 := SV.below hv9 hb10
  have hx10 := hx9.below hb10
  have rv10 := rv9.below hb10
  have hw10 := Below.then hw9 hb10
  obtain ⟨d0, d1, d2, d3⟩ := id hx10
  clear hv9 hx9 rv9 hw9 hb10 c0 c1 c2 c3
  go_wp2_with fail
  refine (pwrite_any A N C ts K m G a9 j9 c9 l _ hv10 hN1 hC1 rv10 (few_max (by omega)) HRG.out).mono ?_
  rintro e w11 he
  obtain ⟨v11, rfl, hb11⟩ := he.err
  rw [HCC.out]
  have hv11 := SV.below hv10 hb11
  have hx11 := hx10.below hb11
  have rv11 := rv10.below hb11
  have hw11 := Below.then hw10 hb11
  obtain ⟨qs, hq1, hq2, hq3⟩ := rv11.pairs
  have HQ2 := Lib.hid hq2
  have HQ3 := Lib.hid hq3.old
  clear hv10 hx10 rv10 hw10 hb11 d0 d1 d2 d3 he hq2 hq3
  go_wp2_with (at_builtin; refine append_os2 el_rows rfl (.tmp 44) (.tmp 45) rfl w11.heap.size _ 0 [] rfl (OS.lit (k := 1) w11 w11.heap.size (Nat.le_refl _) [] 0 46 rfl (by simp) (by simp) _ rfl) a9 j9 c9 (pc qs) rfl (hq1.alloc _) (by omega) (by omega) (Joins.below_alloc1 w11 (.cells #[] 46)).size ?_; intro v13 w13 ho13 hb13 hk13 hst13; rw [Nat.zero_add, List.nil_append] at ho13; obtain ⟨g, c13, rfl, hgb, hgc, hgm, hcell, hfree, hset⟩ := ho13.own hj1)
  have hbx0 : Below w11.heap.size w11 w13 := (Joins.below_alloc1 w11 (.cells #[] 46)).trans hb13
  clear hk13 hst13 hb13
  obtain ⟨k, hk⟩ : ∃ k : Nat, at0.tmod (j9 : Int) = (k : Int) ∧ k < j9 := by
    have e1 := Int.emod_nonneg at0 (show (j9 : Int) ≠ 0 by omega)
    have e2 := Int.emod_lt_of_pos at0 (show (0 : Int) < j9 by omega)
    rw [Int.tmod_eq_emod_of_nonneg h0.1]
    exact ⟨(at0 % (j9 : Int)).toNat, by omega, by omega⟩
  obtain ⟨hkm, hkl⟩ := hk
  have hql : qs.length = j9 := by have := hq1.1; rw [pc_len] at this; omega
  have hki : (k : Int) < (j9 : Int) := by omega
  have hw0 : IntKind.i64.wrap at0 = at0 := by rw [IntKind.wrap_i64]; omega
  have hplz : ((j9 : Int) == 0) = false := by rw [beq_eq_false_iff_ne]; omega
  have hwk : IntKind.i64.wrap (k : Int) = (k : Int) := by rw [IntKind.wrap_i64]; omega
  have hck := hcell k _ (pc_at (show k < qs.length by omega))
  have hfk := hfree k
  have hmem : qs.getD k p9 ∈ qs := by
    have e : qs.getD k p9 = qs[k]'(by omega) := by simp [List.getD, show k < qs.length by omega]
    rw [e]; exact List.getElem_mem _
  have hrow := HQ3.out _ hmem
  have hrl := Lib.hid ((HF.out (qs.getD k p9).2 (by rw [← HQ2.out]; exact List.mem_map.2 ⟨_, hmem, rfl⟩)).len)
  obtain ⟨⟨⟨A1, L1, C1⟩, rk⟩, hqk⟩ : ∃ q, qs.getD k p9 = q := ⟨_, rfl⟩
  rw [hqk] at hck hrow hrl
  replace hrow : rowRep.rep w11 (.slice A1 L1 C1) rk (fun b => b < w11.heap.size) := hrow
  have hL1 : L1 = N := by
    obtain ⟨⟨A2, L2, C2, e, -, -, e3, -⟩, -⟩ := hrow
    cases e
    have e4 : rk.length = ts.length := hrl.out
    rw [← e3, e4]
    exact hlt.out
  have hj0 : ¬ j9 = 0 := by omega
  have hN1' : 1 ≤ N := by have h2 := hkk.out; have h3 := hlt.out; omega
  obtain ⟨a1, hsl, hrow1⟩ := row_tail hrow (by omega)
  have hos := hset k (.slice a1 (L1 - 1) (C1 - 1)) (by omega) rfl
  have hbx := hbx0.setCell (p := ⟨g, k, none⟩) hgb (.slice a1 (L1 - 1) (C1 - 1))
  have hod : ¬ (N - 1 = N) := by omega
  have HQK := Lib.hid hqk
  have hqs : rowRep.rep (w13.setCell ⟨g, k, none⟩ (.slice a1 (L1 - 1) (C1 - 1))) (.slice a1 (L1 - 1) (C1 - 1)) (rk.drop 1) (fun b => b < w11.heap.size) := rowRep.low hrow1 hbx (fun b hb => hb)
  replace hL1 := Lib.hid hL1
  clear hrow hrow1 hcell hfree hset hmem hqk hq1 hbx0
  go_wp2_with fail
  refine wp_region_noPanic ?_
  refine region_g 16 (Ext (World.drew _)) (by kernel_rfl) (Ext.refl _) (fun hS => ?_)
  refine take_w (i := 0) (v := ?_) (some 47) rfl (by kernel_rfl) rfl (fun _ _ _ h => h) (Or.inl ⟨by rfl, ?_⟩) hS ?_
  rotate_left
  · (intro wq hq; go_simp); first | done | with_reducible rfl
  try simp only [Act.put, List.setIfInBounds_toArray, List.set_cons_zero, List.set_cons_succ]
  replace hS := Till.list 0 hS
  refine take_w (i := 1) (v := ?_) (some 48) rfl (by kernel_rfl) rfl (fun _ _ _ h => h) (Or.inl ⟨by rfl, ?_⟩) hS ?_
  rotate_left
  · (intro wq hq; go_simp); first | done | with_reducible rfl
  try simp only [Act.put, List.setIfInBounds_toArray, List.set_cons_zero, List.set_cons_succ]
  replace hS := Till.list 1 hS
  refine take_w (i := 3) (v := ?_) (some 50) rfl (by kernel_rfl) rfl (fun _ _ _ h => h) (Or.inl ⟨by rfl, ?_⟩) hS ?_
  rotate_left
  · (intro wq hq; go_simp); first | done | with_reducible rfl
  try simp only [Act.put, List.setIfInBounds_toArray, List.set_cons_zero, List.set_cons_succ]
  replace hS := Till.list 3 hS
  refine take_w (i := 6) (v := ?_) (some 53) rfl (by kernel_rfl) rfl (fun _ _ _ h => h) (Or.inl ⟨by rfl, ?_⟩) hS ?_
  rotate_left
  · (intro wq hq; go_simp); first | done | with_reducible rfl
  try simp only [Act.put, List.setIfInBounds_toArray, List.set_cons_zero, List.set_cons_succ]
  replace hS := Till.list 6 hS
  refine take_w (i := 7) (v := ?_) (some 54) rfl (by kernel_rfl) rfl (fun _ _ _ h => h) (Or.inl ⟨by rfl, ?_⟩) hS ?_
  rotate_left
  · (intro wq hq; go_simp); first | done | with_reducible rfl
  try simp only [Act.put, List.setIfInBounds_toArray, List.set_cons_zero, List.set_cons_succ]
  replace hS := Till.list 7 hS
  refine take_w (i := 9) (v := ?_) (some 56) rfl (by kernel_rfl) rfl (fun _ _ _ h => h) (Or.inl ⟨by rfl, ?_⟩) hS ?_
  rotate_left
  · (intro wq hq; go_simp); first | done | with_reducible rfl
  try simp only [Act.put, List.setIfInBounds_toArray, List.set_cons_zero, List.set_cons_succ]
  replace hS := Till.list 9 hS
  refine take_w (i := 2) (v := ?_) (some 49) rfl (by kernel_rfl) rfl (fun _ _ _ h => h) (Or.inl ⟨by rfl, ?_⟩) hS ?_
  rotate_left
  · (intro wq hq; go_simp); first | done | with_reducible rfl
  try simp only [Act.put, List.setIfInBounds_toArray, List.set_cons_zero, List.set_cons_succ]
  replace hS := Till.list 2 hS
  refine take_w (i := 4) (v := ?_) (some 51) rfl (by kernel_rfl) rfl (fun _ _ _ h => h) (Or.inl ⟨by rfl, ?_⟩) hS ?_
  rotate_left
  · (intro wq hq; go_simp); first | done | with_reducible rfl
  try simp only [Act.put, List.setIfInBounds_toArray, List.set_cons_zero, List.set_cons_succ]
  replace hS := Till.list 4 hS
  refine take_w (i := 8) (v := ?_) (some 55) rfl (by kernel_rfl) rfl (fun _ _ _ h => h) (Or.inl ⟨by rfl, ?_⟩) hS ?_
  rotate_left
  · (intro wq hq; go_simp); first | done | with_reducible rfl
  try simp only [Act.put, List.setIfInBounds_toArray, List.set_cons_zero, List.set_cons_succ]
  replace hS := Till.list 8 hS
  refine take_w (i := 10) (v := ?_) (some 57) rfl (by kernel_rfl) rfl (fun _ _ _ h => h) (Or.inl ⟨by rfl, ?_⟩) hS ?_
  rotate_left
  · (intro wq hq; go_simp); first | done | with_reducible rfl
  try simp only [Act.put, List.setIfInBounds_toArray, List.set_cons_zero, List.set_cons_succ]
  replace hS := Till.list 10 hS
  refine take_w (i := 5) (v := ?_) (some 52) rfl (by kernel_rfl) rfl (fun _ _ _ h => h) (Or.inl ⟨by rfl, ?_⟩) hS ?_
  rotate_left
  · (intro wq hq; go_simp); first | done | with_reducible rfl
  try simp only [Act.put, List.setIfInBounds_toArray, List.set_cons_zero, List.set_cons_succ]
  replace hS := Till.list 5 hS
  refine take_w (i := 11) (v := ?_) (some 58) rfl (by kernel_rfl) rfl (fun _ _ _ h => h) (Or.inl ⟨by rfl, ?_⟩) hS ?_
  rotate_left
  · (intro wq hq; go_simp); first | done | with_reducible rfl
  try simp only [Act.put, List.setIfInBounds_toArray, List.set_cons_zero, List.set_cons_succ]
  replace hS := Till.list 11 hS
  refine take_w (i := 12) (v := ?_) (some 59) rfl (by kernel_rfl) rfl (fun _ _ _ h => h) (Or.inl ⟨by rfl, ?_⟩) hS ?_
  rotate_left
  · (intro wq hq; go_simp); first | done | with_reducible rfl
  try simp only [Act.put, List.setIfInBounds_toArray, List.set_cons_zero, List.set_cons_succ]
  replace hS := Till.list 12 hS
  refine take_g (i := 13) (v := ?_) [13] (some 60) rfl (by kernel_rfl) rfl (fun _ _ _ h => h) (Or.inl ⟨by rfl, ?_⟩) hS ?_
  rotate_left
  · (intro wq hq; have q0 := hq _ _ _ hck; go_simp); first | done | with_reducible rfl
  try simp only [Act.put, List.setIfInBounds_toArray, List.set_cons_zero, List.set_cons_succ]
  replace hS := Till.list 13 hS
  refine take_g (i := 14) (v := .slice a1 (L1 - 1) (C1 - 1)) [14] (some 61) rfl (by kernel_rfl) rfl (fun _ _ _ h => h) (Or.inl ⟨by rfl, ?_⟩) hS ?_
  · (intro wq hq; (have := hsl; go_simp))
  try simp only [Act.put, List.setIfInBounds_toArray, List.set_cons_zero, List.set_cons_succ]
  replace hS := Till.list 14 hS
  refine take_w (i := 15) (v := ?_) (some 62) rfl (by kernel_rfl) rfl (fun _ _ _ h => h) (Or.inl ⟨by rfl, ?_⟩) hS ?_
  rotate_left
  · (intro wq hq; go_simp); first | done | with_reducible rfl
  try simp only [Act.put, List.setIfInBounds_toArray, List.set_cons_zero, List.set_cons_succ]
  replace hS := Till.list 15 hS
  refine ready_g (rs := [16]) (by kernel_rfl) (by simp) ?_
  refine AllReadyG.cons rfl (fun Kont hK => ?_) AllReadyG.nil
  go_simp
  refine hK.out _ _ (Or.inl (by kernel_rfl)) (fun hS0 => ?_)
  clear hK Kont
  try simp only [Act.put, List.setIfInBounds_toArray, List.set_cons_zero, List.set_cons_succ]
  clear hS
  have hS := hS0
  clear hS0
  refine done_g (by kernel_rfl) (NoPanic.normal ?_) _
  clear hS
  obtain ⟨a14, c14, e14, -, -, sv14, -⟩ := hos.sv
  cases e14
  rw [show (.slice a1 (L1 - 1) (C1 - 1) : Value) = sV (((a1, L1 - 1, C1 - 1), rk.drop 1) : P9).1 from rfl, pc_set] at sv14
  have hpr14 : PR (w13.setCell ⟨g, k, none⟩ (.slice a1 (L1 - 1) (C1 - 1))) (qs.set k ((a1, L1 - 1, C1 - 1), rk.drop 1)) := fun p hp => by
    rcases List.mem_or_eq_of_mem_set hp with hp | rfl
    · exact (rowRep.low (HQ3.out p hp) hbx (fun b hb => hb)).1
    · exact hqs.1
  have rv14 := RVs.of sv14 hpr14
  have hlo : (qs.set k ((a1, L1 - 1, C1 - 1), rk.drop 1)).map (·.2) = l.set k (rk.drop 1) := by rw [map_set2, HQ2.out]
  rw [hlo] at rv14
  have hrkl : rk ∈ l := by
    have e : qs.getD k p9 = qs[k]'(by omega) := by simp [List.getD, show k < qs.length by omega]
    have h1 := HQK.out
    rw [e] at h1
    rw [← HQ2.out]
    exact List.mem_map.2 ⟨_, List.getElem_mem (show k < qs.length by omega), by rw [h1]⟩
  obtain ⟨lo, hlod⟩ : ∃ lo, l.set k (rk.drop 1) = lo := ⟨_, rfl⟩
  rw [hlod] at rv14
  have HGO : Hid (∀ r ∈ lo, RgV r) := Lib.hid (fun r hr => by
    rw [← hlod] at hr
    rcases List.mem_or_eq_of_mem_set hr with hr | rfl
    · exact HRG.out r hr
    · exact fun x hx => HRG.out rk hrkl x (List.mem_of_mem_drop hx))
  have hlol : lo.length = j9 := by rw [← hlod, List.length_set]; exact hll.out
  have HCO := Lib.hid (chE_row HCK.out (l := lo) (i := k) ⟨by rw [hlol]; exact hj1, by rw [hlol]; omega⟩ (by rw [hlol]; exact hkl) (rowB_off (by
    rw [← hlod, List.getD_eq_getElem?_getD, List.getElem?_set_self (by rw [hll.out]; exact hkl), Option.getD_some, List.length_drop]
    have e4 : rk.length = ts.length := hrl.out
    have e5 := hlt.out
    omega)))
  clear hos sv14 hpr14 hqs hsl hck hfk hrl HQ2 HQ3 HQK hlo hrkl hlod hlol hkm hkl hki hql hwk hplz hj0 hod hL1
  have hv14 := SV.below hv11 hbx
  have hx14 := hx11.below hbx
  have rw14 := rv11.below hbx
  have hw14 := Below.then hw11 hbx
  clear hv11 hx11 rv11 hw11 hbx
  generalize w13.setCell ⟨g, k, none⟩ (.slice a1 (L1 - 1) (C1 - 1)) = w14 at *
  have hv14 : IV w14.drew A N ts := hv14
  have hx14 : Sx w14.drew bs A N C K m (G : Int) := hx14
  have rv14 : RVs w14.drew (some ⟨g, 0, none⟩) j9 lo := rv14
  have rw14 : RVs w14.drew a9 j9 l := rw14
  have hw14 := hw14.drew
  obtain ⟨c0, c1, c2, c3⟩ := id hx14
  go_wp2_with fail
  refine (pwrite_any A N C ts K m G (some ⟨g, 0, none⟩) j9 c13 lo _ hv14 hN1 hC1 rv14 (few_max (by omega)) HGO.out).mono ?_
  rintro e w15 he
  obtain ⟨v15, rfl, hb15⟩ := he.err
  rw [HCO.out]
  have hv15 := SV.below hv14 hb15
  have hx15 := hx14.below hb15
  have rw15 := rw14.below hb15
  have hw15 := Below.then hw14 hb15
  clear hv14 hx14 rv14 rw14 hw14 hb15 he c0 c1 c2 c3 HCO HGO
  obtain ⟨c0, c1, c2, c3⟩ := id hx15
  go_wp2_with fail
  refine (pwrite_any A N C ts K m G none 0 0 [] _ hv15 hN1 hC1 ⟨rfl, .inl rfl⟩ (few_max (by omega)) (fun r hr => by cases hr)).mono ?_
  rintro e w16 he
  obtain ⟨v16, rfl, hb16⟩ := he.err
  rw [chE_size HCK.out (by simp)]
  have hv16 := SV.below hv15 hb16
  have hx16 := hx15.below hb16
  have rw16 := rw15.below hb16
  have hw16 := Below.then hw15 hb16
  clear hv15 hx15 rw15 hw15 hb16 he c0 c1 c2 c3
  obtain ⟨b0, f0, A0, L0, C0, e0, hc0, hL0, wv0⟩ := rw16.at 0 (by omega)
  have hrow0 : RowAt w16 (.slice A0 L0 C0) (l.getD 0 []) := by
    obtain ⟨qs, hq1, hq2, hq3⟩ := rw16.pairs
    have hql : qs.length = j9 := by have := hq1.1; rw [pc_len] at this; omega
    have h1 := hq3.at (i := 0) (by omega)
    rcases hq1.2.2 with h2 | ⟨b, off, h2, hcc⟩
    · omega
    · rw [e0] at h2
      cases h2
      have h3 := hcc 0 _ (pc_at (show 0 < qs.length by omega))
      rw [hc0] at h3
      rw [Option.some.inj h3]
      have h4 : (qs.getD 0 p9).2 = l.getD 0 [] := by
        rw [← hq2]
        simp [List.getD, show 0 < qs.length by omega]
      rw [← h4]; exact h1
  have hr0l : l.getD 0 [] ∈ l := by
    have e : l.getD 0 [] = l[0]'(by rw [hll.out]; omega) := by simp [List.getD, hll.out, show 0 < j9 by omega]
    rw [e]; exact List.getElem_mem _
  subst e0
  rw [Nat.add_zero] at hc0
  obtain ⟨r0, hr0⟩ : ∃ r0, l.getD 0 [] = r0 := ⟨_, rfl⟩
  rw [hr0] at hrow0 hr0l
  have HR0 := Lib.hid hr0l
  clear wv0 hr0 hr0l hL0
  have o9 : OS 1 (w16.alloc (.cells #[] 46)) w16.heap.size (.slice (some ⟨w16.heap.size, 0, none⟩) 0 0) 0 [] := OS.lit (k := 1) w16 w16.heap.size (Nat.le_refl _) [] 0 46 rfl (by simp) (by simp) _ rfl
  have hb0 := Joins.below_alloc1 w16 (.cells #[] 46)
  go_wp2_with fail
  go_loopw [18, 19] (fun o i wr => ∃ (x : Nat), x ≤ 2001 ∧ i = .int .i64 (x : Int) ∧ OS 1 wr w16.heap.size o x (List.replicate x (.slice A0 L0 C0)) ∧ Below w16.heap.size w16 wr) (fun _ i _ => 2001 - (intOf i).toNat)
  case atStart => exact ⟨0, by omega, rfl, o9, hb0⟩
  case round =>
    clear o9 hb0
    obtain ⟨x, hx1, rfl, ho, hb⟩ := hrel
    by_cases hlx : x ≤ 2000
    · have hxi : (x : Int) ≤ 2000 := by omega
      have hc1 := keepc hc0 hb
      have hj0 : 0 < j9 := by omega
      have ho2 := ho.alloc (.cells #[.slice A0 L0 C0] 46)
      have hsv : SV 1 (wr.alloc (.cells #[.slice A0 L0 C0] 46)) (some ⟨wr.heap.size, 0, none⟩) 1 [.slice A0 L0 C0] := SV.lit' (k := 1) wr [.slice A0 L0 C0] 1 46 rfl (by simp [Value.oneCell']) _ rfl
      have hb2 := hb.alloc hb.size (.cells #[.slice A0 L0 C0] 46)
      go_wp2_with (at_builtin; refine append_os2 el_rows rfl (.tmp 79) (.tmp 83) rfl w16.heap.size _ x _ rfl ho2 _ 1 1 [.slice A0 L0 C0] rfl hsv (by omega) (by omega) hb2.size ?_; intro v17 w17 ho3 hb17 hk17 hst17)
      rw [← List.replicate_succ'] at ho3
      have hb3 := hb2.trans hb17
      clear ho ho2 hsv hb2 hb17 hk17 hst17 hb
      go_roundw
      case rel => exact ⟨x + 1, by omega, by go_num, ho3, hb3⟩
      case measure => simp [intOf]; omega
    · have hxi : ¬ (x : Int) ≤ 2000 := by omega
      obtain ⟨a18, c18, rfl, -, -, sv18, -⟩ := ho.sv
      have hpr : PR wr (List.replicate x (((A0, L0, C0), r0) : P9)) := fun p hp => by rw [(List.mem_replicate.1 hp).2]; exact hrow0.below hb
      rw [show List.replicate x (.slice A0 L0 C0) = pc (List.replicate x (((A0, L0, C0), r0) : P9)) by unfold pc; rw [List.map_replicate]] at sv18
      have rv18 := RVs.of sv18 hpr
      rw [List.map_replicate] at rv18
      have hx2 : Hid (x = 2001) := Lib.hid (by omega)
      obtain ⟨lm, hlm⟩ : ∃ lm, List.replicate x r0 = lm := ⟨_, rfl⟩
      have HCM := Lib.hid (chE_size HCK.out (l := lm) (by rw [← hlm, List.length_replicate]; omega))
      have HGM : Hid (∀ r ∈ lm, RgV r) := Lib.hid (fun r hr => by rw [← hlm] at hr; rw [(List.mem_replicate.1 hr).2]; exact HRG.out _ HR0.out)
      rw [show ((((A0, L0, C0), r0) : P9)).2 = r0 from rfl, hlm] at rv18
      have hv17 := SV.below hv16 hb
      have hx17 := hx16.below hb
      have rw17 := rw16.below hb
      have hw17 := Below.then hw16 hb
      clear hpr sv18 ho hlm hb hv16 hx16 rw16 hw16 hc0 hrow0
      obtain ⟨c0, c1, c2, c3⟩ := id hx17
      go_wp2_with fail
      refine (pwrite_any A N C ts K m G a18 x c18 lm _ hv17 hN1 hC1 rv18 (few_max (by omega)) HGM.out).mono ?_
      rintro e w18 he
      obtain ⟨v18, rfl, hb18⟩ := he.err
      rw [HCM.out]
      have hv18 := SV.below hv17 hb18
      have hx18 := hx17.below hb18
      have rw18 := rw17.below hb18
      have hw18 := Below.then hw17 hb18
      clear hv17 hx17 rv18 rw17 hw17 hb18 he c0 c1 c2 c3 HCM HGM
      obtain ⟨c0, c1, c2, c3⟩ := id hx18
      have hbq := Joins.below_alloc1 w18 (.cells #[.slice A N C, .int .i64 (K : Int), .int .i64 0, .int .i64 (G : Int)] 24)
      have hv19 := SV.below hv18 hbq
      have rw19 := rw18.below hbq
      have hw19 := Below.then hw18 hbq
      have HCB : Hid (chE ts (K : Int) 0 (G : Int) l = 20) := Lib.hid (chE_schema (by
        cases hb : checkB ts (K : Int) 0 (G : Int)
        · rfl
        · have := (check_is hb).2.2.2.2.1
          omega))
      clear hbq hv18 rw18 hw18
      go_wp2_with fail
      refine (pwrite_any A N C ts K 0 G (some ⟨b0, f0, none⟩) j9 c9 l _ hv19 hN1 hC1 rw19 (few_max (by omega)) HRG.out).mono ?_
      rintro e w20 he
      obtain ⟨v20, rfl, hb20⟩ := he.err
      rw [HCB.out]
      have hw20 := Below.then hw19 hb20
      clear hv19 rw19 hw19 hb20 he c0 c1 c2 c3 HCB
      rcases HSB.out with ⟨rfl, rfl⟩ | ⟨rfl, rfl⟩
      · go_wp2_with fail
        go_ret
        exact ⟨rfl, hw20⟩
      · go_wp2_with fail
        go_ret
        exact ⟨rfl, hw20⟩
end Go.Proofs.YtbfihajgjbpmaaaGreat
/-
  PartRefuses: for every shape, every list of rows and every number the statement's function returns true, and its arguments read as they did. No condition.
-/
namespace Go.Proofs.YtbfihajgjbpmaaaGreat.partRefuses
open Go.ChangeShapes Go.WideShapes Go.ChangeAt Go.RowKit
set_option linter.unusedVariables false
set_option maxRecDepth 4000

set_option maxRecDepth 100000 in
theorem lifted (os : Os) (started : os.Started) (H : Type) (enc : TypeId × Value → H) :
    ReturnsInHanded {} Tryz.checked os 6 .any (Rows.partRefusesSpec.pre6 enc Tryz.prog Tryz.f6 Rows.partRefusesRow.domain false) (Rows.partRefusesSpec.post enc Tryz.prog Tryz.f6 false true false false) := by
  refine returnsInHanded_of_change (C := Tryz.checked) own started (by kernel_rfl) Tryz.func6
    (ChangeSpec.witness6 (enc := enc) (C := Tryz.checked) false ⟨#[], #[.agg #[.int .u8 0, .int .u8 0, .int .u8 0, .int .u8 0, .int .u8 0, .int .u8 0, .int .u8 0, .int .u8 0, .int .u8 0, .int .u8 0, .int .u8 0, .int .u8 0], .slice none 0 0, .int .u8 0], []⟩ 8 (by kernel_rfl) (by kernel_rfl) (by kernel_rfl) (by kernel_rfl)) ?_
  intro W base args ds gs before hval0 hW hcnd _
  have hval : ∀ (j : Nat) t v, Tryz.f6.params[j]? = some t → args[j]? = some v → Value.okWide Tryz.prog W .any base t v := hval0
  have hW' := hW
  obtain ⟨p, q, hA0, hV, rfl, hfz, hnd⟩ := hW
  have hA : DataW.TrodAll enc Tryz.prog W 0 (fun _ => true) true Tryz.f6.params.toList args.toList ds p := hA0
  rw [Tryz.params6] at hA hval
  obtain ⟨v0, vs0, d0, ds0, p0, q0, hargs0, rfl, rfl, h0, r0⟩ := trodAll_cons hA
  obtain ⟨v1, vs1, d1, ds1, p1, q1, hargs1, hds1, hq1, h1, r1⟩ := trodAll_cons r0
  obtain ⟨v2, vs2, d2, ds2, p2, q2, hargs2, hds2, hq2, h2, r2⟩ := trodAll_cons r1
  obtain ⟨hn1, hn2, hn3⟩ := trodAll_nil r2
  subst hn2 hn3
  subst hds2 hq2
  subst hds1 hq1
  obtain rfl : args = #[v0, v1, v2] := by cases args; simp_all
  obtain ⟨rfl, rfl⟩ := trodVars_none hV
  have rd0 := h0
  have lt0 : ∀ x ∈ p0, x.block < W.heap.size := by obtain ⟨m, hm⟩ := rd0; exact DataW.trod_lt m _ _ _ hm
  obtain ⟨la0, lb0, lc0, ld0, le0, lf0, lg0, lh0, na0, nb0, nc0, nd0, rfl, S0⟩ := open_shape (hval 0 40 v0 rfl rfl) h0
  have rd1 := h1
  have lt1 : ∀ x ∈ p1, x.block < W.heap.size := by obtain ⟨m, hm⟩ := rd1; exact DataW.trod_lt m _ _ _ hm
  obtain ⟨A1, n1, c1, v1, rfl, W1, L1, R1⟩ := open_rows4 (hval 1 25 v1 rfl rfl) h1
  have rd2 := h2
  have lt2 : ∀ x ∈ p2, x.block < W.heap.size := by obtain ⟨m, hm⟩ := rd2; exact DataW.trod_lt m _ _ _ hm
  obtain ⟨a2, rfl, B2⟩ := open_u8 (hval 2 5 v2 rfl rfl) h2
  clear hA0 hval0
  refine (refusesB_is S0 A1 n1 c1 v1 a2 W W1 L1 R1 B2).mono fun e W' ⟨he, bel⟩ => ?_
  subst he
  exact ⟨_, rfl, _, _, _, [], _, [], hW', trodAll_mk1 (shut_bool Tryz.underlying4 _), (trodAll_cons_mk (Below.trod laidOut (by kernel_rfl) (of_decide_eq_true (by kernel_rfl)) rd0 bel lt0) (trodAll_cons_mk (Below.trod laidOut (by kernel_rfl) (of_decide_eq_true (by kernel_rfl)) rd1 bel lt1) (trodAll_cons_mk (Below.trod laidOut (by kernel_rfl) (of_decide_eq_true (by kernel_rfl)) rd2 bel lt2) trodAll_mk0))), rfl, bel.frame _, fun h => by cases h⟩

theorem over : Rows.partRefusesRow.holds Tryz.pinned (OpenSpec.ofChange Rows.partRefusesSpec) :=
  OpenClaim.holds_of_wide 6 Tryz.f6 rfl rfl rfl rfl rfl rfl rfl ⟨rfl, rfl, rfl, rfl, rfl⟩ rfl rfl rfl rfl rfl (by kernel_rfl) Tryz.func6 (by kernel_rfl)
    (of_decide_eq_true (by kernel_rfl)) (by unfold Func.isWrapper; first | (rw [if_pos (by decide +kernel)]; kernel_rfl) | (rw [if_neg (by decide +kernel)]; exact ⟨rfl, rfl⟩))
    (fun os started H enc _ => lifted os started H enc)
end Go.Proofs.YtbfihajgjbpmaaaGreat.partRefuses
namespace Go.Proofs.YtbfihajgjbpmaaaGreat
theorem partRefuses_holds : Rows.PartRefusesSaid := partRefuses.over
end Go.Proofs.YtbfihajgjbpmaaaGreat
