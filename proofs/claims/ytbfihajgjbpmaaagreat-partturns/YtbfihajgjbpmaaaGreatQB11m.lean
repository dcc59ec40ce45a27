/-
  PartTurns: for every shape, every list of rows and every two numbers the statement's function returns true, and its arguments read as they did. No condition.
-/
import Derived.Test.YtbfihajgjbpmaaaGreatBase
import Derived.Test.YtbfihajgjbpmaaaGreatPrtE
import Derived.Test.YtbfihajgjbpmaaaGreatPartP
import Derived.Test.YtbfihajgjbpmaaaGreatRows
import Derived.WalkKit
import Derived.ProofKit
import Derived.OpenShut
import Derived.ShutString
import Derived.ChangeOld
import Derived.Below
import Derived.Test.YtbfihajgjbpmaaaGreatSchC
/- How two numbers of sixteen bits come in. -/
namespace Go.Proofs.YtbfihajgjbpmaaaGreat
open Go.ChangeShapes Go.WideShapes Go.ChangeAt Go.RowKit
set_option linter.unusedVariables false
set_option maxRecDepth 4000

section
variable {H : Type} {enc : TypeId × Value → H} {w : World} {base fuel : Nat} {spare : Nat → Bool} {held : Bool}
theorem u16_of {c : Value} {x : Option (DataW H × List MemPlace)} {y : DataW H × List MemPlace} (h : DataW.trod enc Tryz.prog w base spare held fuel 41 [c] = x) (hx : x = some y) : ∃ z : Int, c = .int .u16 z ∧ 0 ≤ z ∧ z ≤ 65535 := by
  rw [hx] at h
  obtain ⟨z, hz, _, wz⟩ := DataW.trod_int Tryz.underlying41 h
  have := bounds_u16 wz
  exact ⟨z, by simpa using hz, this.1, this.2⟩
theorem open_two16 {r : Reach} {b0 : Nat} {v : Value} {d : DataW H} {p : List MemPlace} (hv : Value.okWide Tryz.prog w r b0 56 v) (h : DataW.Trod enc Tryz.prog w base spare held 56 v d p) :
    ∃ a b : Int, v = .agg #[.int .u16 a, .int .u16 b] ∧ (0 ≤ a ∧ a ≤ 65535) ∧ (0 ≤ b ∧ b ≤ 65535) := by
  obtain ⟨cs, rfl, hsz⟩ := okWide_array Tryz.underlying56 hv
  obtain ⟨fuel, hf⟩ := h
  have hl : cs.toList.length = 2 := by rw [Array.length_toList, hsz]; kernel_rfl
  have hf' : DataW.trod enc Tryz.prog w base spare held fuel 56 cs.toList = some (d, p) := by simpa [Value.cells] using hf
  obtain ⟨xs, m1, rfl, -, -, hn3, hel⟩ := DataW.trod_array Tryz.underlying56 hf'
  have c1 : Tryz.prog.cellsOf 41 = 1 := by kernel_rfl
  rw [c1] at hel
  obtain ⟨cs⟩ := cs
  match cs, hl with
  | [q0, q1], _ =>
    have a0 := hel 0 (by decide)
    have a1 := hel 1 (by decide)
    obtain ⟨z0, k0⟩ := some_at (i := 0) hn3 (by decide)
    obtain ⟨z1, k1⟩ := some_at (i := 1) hn3 (by decide)
    obtain ⟨a, ha, h1⟩ := u16_of (c := q0) a0 k0
    obtain ⟨b, hb, h2⟩ := u16_of (c := q1) a1 k1
    exact ⟨a, b, by rw [ha, hb], h1, h2⟩
end
end Go.Proofs.YtbfihajgjbpmaaaGreat
/- PartTurns: the walk. -/
namespace Go.Proofs.YtbfihajgjbpmaaaGreat
open Go.ChangeShapes Go.WideShapes Go.ChangeAt Go.RowKit
set_option linter.unusedVariables false
set_option maxRecDepth 4000

set_option maxHeartbeats 16000000 in
theorem turnsB_is {l0 l1 l2 l3 l4 l5 l6 l7 n keys mode grain : Int} (h : ShW l0 l1 l2 l3 l4 l5 l6 l7 n keys mode grain) (R : Option Addr) (nr cr : Nat) (vss : List RowV) (a0 a1 : Int) (w : World)
    (hr : RVs w R nr vss) (hnr : nr ≤ maxLen) (hg : ∀ v ∈ vss, RgV v) (h0 : 0 ≤ a0 ∧ a0 ≤ 65535) (h1 : 0 ≤ a1 ∧ a1 ≤ 65535) :
    Calls Tryz.prog 5 #[ShV l0 l1 l2 l3 l4 l5 l6 l7 n keys mode grain, .slice R nr cr, .agg #[.int .u16 a0, .int .u16 a1]] w fun e w' => e = .returned (.bool true) ∧ Below w.heap.size w w' := by
  go_enter Tryz.func5, Tryz.ntmps5
  go_wp2_with fail
  have ta := (Bk.new (w.alloc (.cells (shC l0 l1 l2 l3 l4 l5 l6 l7 n keys mode grain) 40)) #[.int .u16 a0, .int .u16 a1] 56)
  rw [heap_alloc] at ta
  refine (shownB_is _).mono ?_
  rintro e w1 ⟨rfl, hb1⟩
  have t1 := ((Bk.new w (shC l0 l1 l2 l3 l4 l5 l6 l7 n keys mode grain) 40).alloc (.cells #[.int .u16 a0, .int .u16 a1] 56)).below hb1
  have hw1 := after2 hb1
  have hr := hr.below hw1
  have ta := ta.below hb1
  clear hb1
  obtain ⟨⟨x0, x1, x2, x3⟩, ⟨x4, x5, x6, x7⟩, ⟨x8, x9, x10, x11⟩⟩ := t1.shape
  go_wp2_with fail
  refine (madeB_eight h _).mono ?_
  rintro e w2 ⟨A, N, C, K, m, g, ts, rfl, hk, hN, hg8, ho, hb2⟩
  clear x0 x1 x2 x3 x4 x5 x6 x7 x8 x9 x10 x11 t1
  obtain ⟨_, _, hA, hC1, hC2, hv, -⟩ := ho.sv
  cases hA
  obtain ⟨G, rfl⟩ : ∃ G : Nat, g = (G : Int) := ⟨g.toNat, by have := (check_is hk).2.2.2.2.2.2.1; omega⟩
  have hG : 1 ≤ G ∧ G ≤ 64 := by have h1 := (check_is hk).2.2.2.2.2.2.1; have h2 := (check_is hk).2.2.2.2.2.2.2.1; omega
  have hkk := Lib.hid (MadeG.keys hk)
  have hty : Hid (Ty ts) := Lib.hid (check_is hk).2.2.2.2.2.2.2.2
  have hlt := Lib.hid (IV.len hv)
  have HCK := Lib.hid hk
  have HG8 : Hid (G ≤ 8) := Lib.hid (by omega)
  clear hg8
  have hx := Sx.new w2 A N C K m (G : Int) 24
  have hr := (hr.below hb2).alloc (.cells #[.slice A N C, .int .i64 K, .int .i64 m, .int .i64 (G : Int)] 24)
  have hv := hv.alloc (.cells #[.slice A N C, .int .i64 K, .int .i64 m, .int .i64 (G : Int)] 24)
  have hw := (Below.then hw1 hb2).alloc (by have := (Below.then hw1 hb2).size; omega) (.cells #[.slice A N C, .int .i64 K, .int .i64 m, .int .i64 (G : Int)] 24)
  have ta := (ta.below hb2).alloc (.cells #[.slice A N C, .int .i64 K, .int .i64 m, .int .i64 (G : Int)] 24)
  have hN1 : N ≤ maxLen := few_max (by omega)
  have hK1 : K ≤ maxLen := few_max (by have := hkk.out; omega)
  go_wp2_with fail
  generalize w2.alloc (.cells #[.slice A N C, .int .i64 K, .int .i64 m, .int .i64 (G : Int)] 24) = w3 at *
  generalize w2.heap.size = bs at *
  clear ho hb2 hw1 hk
  have HRG : Hid (∀ v ∈ ([] : RowV) :: fewR vss, RgV v) := Lib.hid (fun v hv => by
    rcases List.mem_cons.1 hv with rfl | hv
    · exact fun x hx => by cases hx
    · exact fewR_rg hg v hv)
  obtain ⟨c0, c1, c2, c3⟩ := id hx
  go_cut [9] (fun v wx => ∃ (a : Option Addr) (j c : Nat) (l : List RowV), v = .slice a j c ∧ RVs wx a j l ∧ 1 ≤ j ∧ j ≤ 40 ∧ Hid (∀ v ∈ l, FR ts v) ∧ Hid (InA (cN ts K) l) ∧ Below w3.heap.size w3 wx)
  case first => as_aux_lemma =>
    refine wp_region_noPanic ?_
    refine region_g 8 (Ext (World.drew _)) (by kernel_rfl) (Ext.refl _) (fun hS => ?_)
    refine take_g (i := 0) (v := ?_) [0] (some 19) rfl (by kernel_rfl) rfl (fun _ _ _ h => h) (Or.inl ⟨by rfl, ?_⟩) hS ?_
    rotate_left
    · (intro wq hq; have q0 := hq _ _ _ c0; have q1 := hq _ _ _ c1; have q2 := hq _ _ _ c2; have q3 := hq _ _ _ c3; go_simp); first | done | with_reducible rfl
    try simp only [Act.put, List.setIfInBounds_toArray, List.set_cons_zero, List.set_cons_succ]
    replace hS := Till.list 0 hS
    refine take_g (i := 1) (v := ?_) [7, 1] (some 20) rfl (by kernel_rfl) rfl (fun _ _ _ h => h) (Or.inl ⟨by rfl, ?_⟩) hS ?_
    rotate_left
    · (intro wq hq; have q0 := hq _ _ _ c0; have q1 := hq _ _ _ c1; have q2 := hq _ _ _ c2; have q3 := hq _ _ _ c3; go_simp); first | done | with_reducible rfl
    try simp only [Act.put, List.setIfInBounds_toArray, List.set_cons_zero, List.set_cons_succ]
    replace hS := Till.list 1 hS
    refine take_w (i := 4) (v := ?_) (some 23) rfl (by kernel_rfl) rfl (fun _ _ _ h => h) (Or.inl ⟨by rfl, ?_⟩) hS ?_
    rotate_left
    · (intro wq hq; go_simp); first | done | with_reducible rfl
    try simp only [Act.put, List.setIfInBounds_toArray, List.set_cons_zero, List.set_cons_succ]
    replace hS := Till.list 4 hS
    refine ready_g (rs := [2, 5]) (by kernel_rfl) (by simp) ?_
    refine (AllReadyG.cons rfl (fun Kont hK => ?_) (AllReadyG.cons rfl (fun Kont hK => ?_) AllReadyG.nil))
    · skip
      go_simp
      refine hK.out _ _ (Or.inr ((hS.get (by kernel_rfl)).alloc _)) (fun hS0 => ?_)
      clear hK Kont
      try simp only [Act.put, List.setIfInBounds_toArray, List.set_cons_zero, List.set_cons_succ]
      clear hS
      have hS := hS0
      clear hS0
      refine ready_g (rs := [3, 5]) (by kernel_rfl) (by simp) ?_
      refine (AllReadyG.cons rfl (fun Kont hK => ?_) (AllReadyG.cons rfl (fun Kont hK => ?_) AllReadyG.nil))
      · skip
        go_simp
        refine hK.out _ _ (Or.inr ((hS.get (by kernel_rfl)).alloc _)) (fun hS0 => ?_)
        clear hK Kont
        try simp only [Act.put, List.setIfInBounds_toArray, List.set_cons_zero, List.set_cons_succ]
        clear hS
        have hS := hS0
        clear hS0
        refine ready_g (rs := [5]) (by kernel_rfl) (by simp) ?_
        refine AllReadyG.cons rfl (fun Kont hK => ?_) AllReadyG.nil
        go_simp
        refine (fewB_any R nr cr vss _ (((hr.alloc (.cells #[] 62)).alloc (.cells #[.slice (some ⟨w3.heap.size, 0, none⟩) 0 0] 46)).below (Below.refl _ _).drew) hnr).mono ?_
        rintro e w5 ⟨j5, v5, rfl, hj5, of5, hbf⟩
        obtain ⟨A5, C5, rfl, rf5⟩ := of5.rvs
        have bk5 := Bk.below (w := ((w3.alloc (.cells #[] 62)).alloc (.cells #[.slice (some ⟨w3.heap.size, 0, none⟩) 0 0] 46)).drew) (Bk.new (w3.alloc (.cells #[] 62)) #[.slice (some ⟨w3.heap.size, 0, none⟩) 0 0] 46) hbf
        rw [heap_alloc] at bk5
        have ho5 := OS.below (w := ((w3.alloc (.cells #[] 62)).alloc (.cells #[.slice (some ⟨w3.heap.size, 0, none⟩) 0 0] 46)).drew) (OS.lit (k := 1) (w3.alloc (.cells #[] 62)) w3.heap.size (by simp) [.slice (some ⟨w3.heap.size, 0, none⟩) 0 0] 1 46 rfl (by simp [Value.oneCell']) (few_max (by omega)) (w3.heap.size + 1) (by simp)) hbf
        have hb5 : Below w3.heap.size w3 w5 := Below.then (Joins.below_alloc2 w3 (.cells #[] 62) (.cells #[.slice (some ⟨w3.heap.size, 0, none⟩) 0 0] 46)).drew hbf
        refine hK.out _ _ (Or.inr ((hS.get (by kernel_rfl)).trans (Ext.below hbf))) (fun hS0 => ?_)
        clear hK Kont
        try simp only [Act.put, List.setIfInBounds_toArray, List.set_cons_zero, List.set_cons_succ]
        clear hS
        have hS := hS0
        clear hS0
        clear hbf of5
        refine ready_g (rs := [6]) (by kernel_rfl) (by simp) ?_
        refine AllReadyG.cons rfl (fun Kont hK => ?_) AllReadyG.nil
        refine want (by kernel_rfl) ?_
        obtain ⟨qs5, sq1, sq2, sq3⟩ := rf5.pairs
        refine wp_append_os2 el_rows (some 25) rfl (.tmp 22) (.tmp 24) rfl w3.heap.size _ 1 _ rfl ho5 A5 j5 C5 (pc qs5) rfl sq1 (by omega) (by omega) hb5.size ?_
        intro v6 w6 ho6 hb6 hk6 hst6
        obtain ⟨a6, c6, rfl, rv6⟩ := start_rows bk5 sq3 ho6 hst6
        rw [sq2] at rv6
        have hw6 := hb5.trans hb6
        have hv6 := hv.below hw6
        refine hK.out _ _ (Or.inr (((hS.get (by kernel_rfl)).low hb6 (Nat.le_refl _)))) (fun hS0 => ?_)
        clear hK Kont
        try simp only [Act.put, List.setIfInBounds_toArray, List.set_cons_zero, List.set_cons_succ]
        clear hS
        have hS := hS0
        clear hS0
        clear ho6 hk6 hst6 hb6 ho5 bk5 rf5 sq1 sq2 sq3 hb5
        refine ready_g (rs := [7]) (by kernel_rfl) (by simp) ?_
        refine AllReadyG.cons rfl (fun Kont hK => ?_) AllReadyG.nil
        go_simp
        refine (fits_rows A N C ts K m (G : Int) a6 (1 + j5) c6 ([] :: fewR vss) 40 w6 hv6 (by omega) rv6 (few_max (by omega)) (by omega)).mono ?_
        have hF := fitsL_fr hty.out HRG.out 40
        have hfl := fitsL_len ts ([] :: fewR vss) 40
        have hf1 := fitsL_one (ts := ts) (l := fewR vss)
        obtain ⟨fs, hfs⟩ : ∃ fs, fitsL ts ([] :: fewR vss) 40 = fs := ⟨_, rfl⟩
        rw [hfs] at hF hfl hf1 ⊢
        rintro e w7 ⟨j7, v7, rfl, hj7, o7, hb7⟩
        obtain ⟨a7, c7, rfl, rv7⟩ := o7.rvs
        have hv7 := hv6.below hb7
        have hw7 := Below.then hw6 hb7
        refine hK.out _ _ (Or.inr ((hS.get (by kernel_rfl)).trans (Ext.below hb7))) (fun hS0 => ?_)
        clear hK Kont
        try simp only [Act.put, List.setIfInBounds_toArray, List.set_cons_zero, List.set_cons_succ]
        clear hS
        have hS := hS0
        clear hS0
        refine ready_g (rs := [8]) (by kernel_rfl) (by simp) ?_
        refine AllReadyG.cons rfl (fun Kont hK => ?_) AllReadyG.nil
        go_simp
        obtain ⟨qs, hq1, hq2, hq3⟩ := rv7.pairs
        have HQ := Lib.hid hq2
        have HI : Hid (InA (cN ts K) (sortA (cN ts K) fs) ∧ ∀ v ∈ sortA (cN ts K) fs, FR ts v) := ⟨sortA_in (cN_ord hty.out K).a _, sorted_fr hF⟩
        refine (r9sort_any A N C ts K m (G : Int) a7 j7 c7 qs _ hv7 hN1 hK1 hq1 hq3 (by omega) (fun q hq => hF q.2 (by rw [← HQ.out]; exact List.mem_map.2 ⟨q, hq, rfl⟩))).mono ?_
        rintro e w8 ⟨v8, rfl, o8, hb8⟩
        obtain ⟨a8, c8, rfl, -, -, sv8, -⟩ := OS.sv o8
        have hlq : (sortA (cP ts K) qs).length = j7 := by rw [sortA_len]; have := hq1.1; rw [pc_len] at this; omega
        have hjf : Hid (j7 = fs.length) := Lib.hid (by have := rv7.1; omega)
        rw [hlq] at sv8
        have hs8 : (sortA (cP ts K) qs).map (·.2) = sortA (cN ts K) fs := by rw [← HQ.out]; exact sortA_map (cN ts K) (fun p : P9 => p.2) qs
        have rv8 := RVs.of sv8 (fun p hp => (hq3 p (sortA_mem.1 hp)).below hb8)
        rw [hs8] at rv8
        have hw8 := Below.then hw7 hb8
        rw [hlq]
        refine hK.out _ _ (Or.inl (by kernel_rfl)) (fun hS0 => ?_)
        clear hK Kont
        try simp only [Act.put, List.setIfInBounds_toArray, List.set_cons_zero, List.set_cons_succ]
        clear hS
        have hS := hS0
        clear hS0
        refine take_w (i := 9) (v := ?_) (some 9) rfl (by kernel_rfl) rfl (fun _ _ _ h => h) (Or.inl ⟨by rfl, ?_⟩) hS ?_
        rotate_left
        · (intro wq hq; go_simp); first | done | with_reducible rfl
        try simp only [Act.put, List.setIfInBounds_toArray, List.set_cons_zero, List.set_cons_succ]
        replace hS := Till.list 9 hS
        refine done_g (by kernel_rfl) (NoPanic.normal ?_) _
        clear hS
        clear sv8 o8 hq1 hq3 rv7 rv6
        go_wp2_with fail
        go_meet
        exact ⟨a8, j7, c8, sortA (cN ts K) fs, rfl, rv8, by have := hjf.out; omega, by omega, Lib.hid HI.out.2, Lib.hid HI.out.1, hw8⟩
      · skip
        go_simp
        refine (fewB_any R nr cr vss _ ((hr.alloc (.cells #[] 62)).below (Below.refl _ _).drew) hnr).mono ?_
        rintro e wf ⟨j5, v5, rfl, hj5, of5, hbf⟩
        obtain ⟨A5, C5, rfl, rf5⟩ := of5.rvs
        have bk5 := Bk.new wf #[.slice (some ⟨w3.heap.size, 0, none⟩) 0 0] 46
        have hbw : Below w3.heap.size w3 wf := Below.then (Joins.below_alloc1 w3 (.cells #[] 62)).drew hbf
        have ho5 := OS.lit (k := 1) wf w3.heap.size hbw.size [.slice (some ⟨w3.heap.size, 0, none⟩) 0 0] 1 46 rfl (by simp [Value.oneCell']) (few_max (by omega)) wf.heap.size rfl
        have hb5 := hbw.alloc hbw.size (.cells #[.slice (some ⟨w3.heap.size, 0, none⟩) 0 0] 46)
        have rf5 := rf5.alloc (.cells #[.slice (some ⟨w3.heap.size, 0, none⟩) 0 0] 46)
        refine hK.out _ _ (Or.inr ((hS.get (by kernel_rfl)).trans (Ext.below hbf))) (fun hS0 => ?_)
        clear hK Kont
        try simp only [Act.put, List.setIfInBounds_toArray, List.set_cons_zero, List.set_cons_succ]
        clear hS
        have hS := hS0
        clear hS0
        clear hbf of5 hbw
        refine ready_g (rs := [3]) (by kernel_rfl) (by simp) ?_
        refine AllReadyG.cons rfl (fun Kont hK => ?_) AllReadyG.nil
        go_simp
        refine hK.out _ _ (Or.inr ((hS.get (by kernel_rfl)).alloc _)) (fun hS0 => ?_)
        clear hK Kont
        try simp only [Act.put, List.setIfInBounds_toArray, List.set_cons_zero, List.set_cons_succ]
        clear hS
        have hS := hS0
        clear hS0
        refine ready_g (rs := [6]) (by kernel_rfl) (by simp) ?_
        refine AllReadyG.cons rfl (fun Kont hK => ?_) AllReadyG.nil
        refine want (by kernel_rfl) ?_
        obtain ⟨qs5, sq1, sq2, sq3⟩ := rf5.pairs
        refine wp_append_os2 el_rows (some 25) rfl (.tmp 22) (.tmp 24) rfl w3.heap.size _ 1 _ rfl ho5 A5 j5 C5 (pc qs5) rfl sq1 (by omega) (by omega) hb5.size ?_
        intro v6 w6 ho6 hb6 hk6 hst6
        obtain ⟨a6, c6, rfl, rv6⟩ := start_rows bk5 sq3 ho6 hst6
        rw [sq2] at rv6
        have hw6 := hb5.trans hb6
        have hv6 := hv.below hw6
        refine hK.out _ _ (Or.inr (((hS.get (by kernel_rfl)).low hb6 (Nat.le_refl _)))) (fun hS0 => ?_)
        clear hK Kont
        try simp only [Act.put, List.setIfInBounds_toArray, List.set_cons_zero, List.set_cons_succ]
        clear hS
        have hS := hS0
        clear hS0
        clear ho6 hk6 hst6 hb6 ho5 bk5 rf5 sq1 sq2 sq3 hb5
        refine ready_g (rs := [7]) (by kernel_rfl) (by simp) ?_
        refine AllReadyG.cons rfl (fun Kont hK => ?_) AllReadyG.nil
        go_simp
        refine (fits_rows A N C ts K m (G : Int) a6 (1 + j5) c6 ([] :: fewR vss) 40 w6 hv6 (by omega) rv6 (few_max (by omega)) (by omega)).mono ?_
        have hF := fitsL_fr hty.out HRG.out 40
        have hfl := fitsL_len ts ([] :: fewR vss) 40
        have hf1 := fitsL_one (ts := ts) (l := fewR vss)
        obtain ⟨fs, hfs⟩ : ∃ fs, fitsL ts ([] :: fewR vss) 40 = fs := ⟨_, rfl⟩
        rw [hfs] at hF hfl hf1 ⊢
        rintro e w7 ⟨j7, v7, rfl, hj7, o7, hb7⟩
        obtain ⟨a7, c7, rfl, rv7⟩ := o7.rvs
        have hv7 := hv6.below hb7
        have hw7 := Below.then hw6 hb7
        refine hK.out _ _ (Or.inr ((hS.get (by kernel_rfl)).trans (Ext.below hb7))) (fun hS0 => ?_)
        clear hK Kont
        try simp only [Act.put, List.setIfInBounds_toArray, List.set_cons_zero, List.set_cons_succ]
        clear hS
        have hS := hS0
        clear hS0
        refine ready_g (rs := [8]) (by kernel_rfl) (by simp) ?_
        refine AllReadyG.cons rfl (fun Kont hK => ?_) AllReadyG.nil
        go_simp
        obtain ⟨qs, hq1, hq2, hq3⟩ := rv7.pairs
        have HQ := Lib.hid hq2
        have HI : Hid (InA (cN ts K) (sortA (cN ts K) fs) ∧ ∀ v ∈ sortA (cN ts K) fs, FR ts v) := ⟨sortA_in (cN_ord hty.out K).a _, sorted_fr hF⟩
        refine (r9sort_any A N C ts K m (G : Int) a7 j7 c7 qs _ hv7 hN1 hK1 hq1 hq3 (by omega) (fun q hq => hF q.2 (by rw [← HQ.out]; exact List.mem_map.2 ⟨q, hq, rfl⟩))).mono ?_
        rintro e w8 ⟨v8, rfl, o8, hb8⟩
        obtain ⟨a8, c8, rfl, -, -, sv8, -⟩ := OS.sv o8
        have hlq : (sortA (cP ts K) qs).length = j7 := by rw [sortA_len]; have := hq1.1; rw [pc_len] at this; omega
        have hjf : Hid (j7 = fs.length) := Lib.hid (by have := rv7.1; omega)
        rw [hlq] at sv8
        have hs8 : (sortA (cP ts K) qs).map (·.2) = sortA (cN ts K) fs := by rw [← HQ.out]; exact sortA_map (cN ts K) (fun p : P9 => p.2) qs
        have rv8 := RVs.of sv8 (fun p hp => (hq3 p (sortA_mem.1 hp)).below hb8)
        rw [hs8] at rv8
        have hw8 := Below.then hw7 hb8
        rw [hlq]
        refine hK.out _ _ (Or.inl (by kernel_rfl)) (fun hS0 => ?_)
        clear hK Kont
        try simp only [Act.put, List.setIfInBounds_toArray, List.set_cons_zero, List.set_cons_succ]
        clear hS
        have hS := hS0
        clear hS0
        refine take_w (i := 9) (v := ?_) (some 9) rfl (by kernel_rfl) rfl (fun _ _ _ h => h) (Or.inl ⟨by rfl, ?_⟩) hS ?_
        rotate_left
        · (intro wq hq; go_simp); first | done | with_reducible rfl
        try simp only [Act.put, List.setIfInBounds_toArray, List.set_cons_zero, List.set_cons_succ]
        replace hS := Till.list 9 hS
        refine done_g (by kernel_rfl) (NoPanic.normal ?_) _
        clear hS
        clear sv8 o8 hq1 hq3 rv7 rv6
        go_wp2_with fail
        go_meet
        exact ⟨a8, j7, c8, sortA (cN ts K) fs, rfl, rv8, by have := hjf.out; omega, by omega, Lib.hid HI.out.2, Lib.hid HI.out.1, hw8⟩
    · skip
      go_simp
      refine (fewB_any R nr cr vss _ (hr.below (Below.refl _ _).drew) hnr).mono ?_
      rintro e wf ⟨j5, v5, rfl, hj5, of5, hbf⟩
      obtain ⟨A5, C5, rfl, rf5⟩ := of5.rvs
      have hbw : Below w3.heap.size w3 wf := Below.then (Below.refl w3.heap.size w3).drew hbf
      have bk5 := Bk.new (wf.alloc (.cells #[] 62)) #[.slice (some ⟨wf.heap.size, 0, none⟩) 0 0] 46
      rw [heap_alloc] at bk5
      have ho5 := OS.lit (k := 1) (wf.alloc (.cells #[] 62)) w3.heap.size (by have := hbw.size; rw [heap_alloc]; omega) [.slice (some ⟨wf.heap.size, 0, none⟩) 0 0] 1 46 rfl (by simp [Value.oneCell']) (few_max (by omega)) (wf.heap.size + 1) (by simp)
      have hb5 := (hbw.alloc hbw.size (.cells #[] 62)).alloc (by have := hbw.size; rw [heap_alloc]; omega) (.cells #[.slice (some ⟨wf.heap.size, 0, none⟩) 0 0] 46)
      have rf5 := (rf5.alloc (.cells #[] 62)).alloc (.cells #[.slice (some ⟨wf.heap.size, 0, none⟩) 0 0] 46)
      refine hK.out _ _ (Or.inr ((hS.get (by kernel_rfl)).trans (Ext.below hbf))) (fun hS0 => ?_)
      clear hK Kont
      try simp only [Act.put, List.setIfInBounds_toArray, List.set_cons_zero, List.set_cons_succ]
      clear hS
      have hS := hS0
      clear hS0
      clear hbf of5 hbw
      refine ready_g (rs := [2]) (by kernel_rfl) (by simp) ?_
      refine AllReadyG.cons rfl (fun Kont hK => ?_) AllReadyG.nil
      go_simp
      refine hK.out _ _ (Or.inr ((hS.get (by kernel_rfl)).alloc _)) (fun hS0 => ?_)
      clear hK Kont
      try simp only [Act.put, List.setIfInBounds_toArray, List.set_cons_zero, List.set_cons_succ]
      clear hS
      have hS := hS0
      clear hS0
      refine ready_g (rs := [3]) (by kernel_rfl) (by simp) ?_
      refine AllReadyG.cons rfl (fun Kont hK => ?_) AllReadyG.nil
      go_simp
      refine hK.out _ _ (Or.inr ((hS.get (by kernel_rfl)).alloc _)) (fun hS0 => ?_)
      clear hK Kont
      try simp only [Act.put, List.setIfInBounds_toArray, List.set_cons_zero, List.set_cons_succ]
      clear hS
      have hS := hS0
      clear hS0
      refine ready_g (rs := [6]) (by kernel_rfl) (by simp) ?_
      refine AllReadyG.cons rfl (fun Kont hK => ?_) AllReadyG.nil
      refine want (by kernel_rfl) ?_
      obtain ⟨qs5, sq1, sq2, sq3⟩ := rf5.pairs
      refine wp_append_os2 el_rows (some 25) rfl (.tmp 22) (.tmp 24) rfl w3.heap.size _ 1 _ rfl ho5 A5 j5 C5 (pc qs5) rfl sq1 (by omega) (by omega) hb5.size ?_
      intro v6 w6 ho6 hb6 hk6 hst6
      obtain ⟨a6, c6, rfl, rv6⟩ := start_rows bk5 sq3 ho6 hst6
      rw [sq2] at rv6
      have hw6 := hb5.trans hb6
      have hv6 := hv.below hw6
      refine hK.out _ _ (Or.inr (((hS.get (by kernel_rfl)).low hb6 (Nat.le_refl _)))) (fun hS0 => ?_)
      clear hK Kont
      try simp only [Act.put, List.setIfInBounds_toArray, List.set_cons_zero, List.set_cons_succ]
      clear hS
      have hS := hS0
      clear hS0
      clear ho6 hk6 hst6 hb6 ho5 bk5 rf5 sq1 sq2 sq3 hb5
      refine ready_g (rs := [7]) (by kernel_rfl) (by simp) ?_
      refine AllReadyG.cons rfl (fun Kont hK => ?_) AllReadyG.nil
      go_simp
      refine (fits_rows A N C ts K m (G : Int) a6 (1 + j5) c6 ([] :: fewR vss) 40 w6 hv6 (by omega) rv6 (few_max (by omega)) (by omega)).mono ?_
      have hF := fitsL_fr hty.out HRG.out 40
      have hfl := fitsL_len ts ([] :: fewR vss) 40
      have hf1 := fitsL_one (ts := ts) (l := fewR vss)
      obtain ⟨fs, hfs⟩ : ∃ fs, fitsL ts ([] :: fewR vss) 40 = fs := ⟨_, rfl⟩
      rw [hfs] at hF hfl hf1 ⊢
      rintro e w7 ⟨j7, v7, rfl, hj7, o7, hb7⟩
      obtain ⟨a7, c7, rfl, rv7⟩ := o7.rvs
      have hv7 := hv6.below hb7
      have hw7 := Below.then hw6 hb7
      refine hK.out _ _ (Or.inr ((hS.get (by kernel_rfl)).trans (Ext.below hb7))) (fun hS0 => ?_)
      clear hK Kont
      try simp only [Act.put, List.setIfInBounds_toArray, List.set_cons_zero, List.set_cons_succ]
      clear hS
      have hS := hS0
      clear hS0
      refine ready_g (rs := [8]) (by kernel_rfl) (by simp) ?_
      refine AllReadyG.cons rfl (fun Kont hK => ?_) AllReadyG.nil
      go_simp
      obtain ⟨qs, hq1, hq2, hq3⟩ := rv7.pairs
      have HQ := Lib.hid hq2
      have HI : Hid (InA (cN ts K) (sortA (cN ts K) fs) ∧ ∀ v ∈ sortA (cN ts K) fs, FR ts v) := ⟨sortA_in (cN_ord hty.out K).a _, sorted_fr hF⟩
      refine (r9sort_any A N C ts K m (G : Int) a7 j7 c7 qs _ hv7 hN1 hK1 hq1 hq3 (by omega) (fun q hq => hF q.2 (by rw [← HQ.out]; exact List.mem_map.2 ⟨q, hq, rfl⟩))).mono ?_
      rintro e w8 ⟨v8, rfl, o8, hb8⟩
      obtain ⟨a8, c8, rfl, -, -, sv8, -⟩ := OS.sv o8
      have hlq : (sortA (cP ts K) qs).length = j7 := by rw [sortA_len]; have := hq1.1; rw [pc_len] at this; omega
      have hjf : Hid (j7 = fs.length) := Lib.hid (by have := rv7.1; omega)
      rw [hlq] at sv8
      have hs8 : (sortA (cP ts K) qs).map (·.2) = sortA (cN ts K) fs := by rw [← HQ.out]; exact sortA_map (cN ts K) (fun p : P9 => p.2) qs
      have rv8 := RVs.of sv8 (fun p hp => (hq3 p (sortA_mem.1 hp)).below hb8)
      rw [hs8] at rv8
      have hw8 := Below.then hw7 hb8
      rw [hlq]
      refine hK.out _ _ (Or.inl (by kernel_rfl)) (fun hS0 => ?_)
      clear hK Kont
      try simp only [Act.put, List.setIfInBounds_toArray, List.set_cons_zero, List.set_cons_succ]
      clear hS
      have hS := hS0
      clear hS0
      refine take_w (i := 9) (v := ?_) (some 9) rfl (by kernel_rfl) rfl (fun _ _ _ h => h) (Or.inl ⟨by rfl, ?_⟩) hS ?_
      rotate_left
      · (intro wq hq; go_simp); first | done | with_reducible rfl
      try simp only [Act.put, List.setIfInBounds_toArray, List.set_cons_zero, List.set_cons_succ]
      replace hS := Till.list 9 hS
      refine done_g (by kernel_rfl) (NoPanic.normal ?_) _
      clear hS
      clear sv8 o8 hq1 hq3 rv7 rv6
      go_wp2_with fail
      go_meet
      exact ⟨a8, j7, c8, sortA (cN ts K) fs, rfl, rv8, by have := hjf.out; omega, by omega, Lib.hid HI.out.2, Lib.hid HI.out.1, hw8⟩
  obtain ⟨a9, j9, c9, l, rfl, rv9, hj1, hj2, HF, HI, hb9⟩ := hcut
  clear c0 c1 c2 c3 HRG
  have hv9 := SV.below hv hb9
  have hx9 := hx.below hb9
  have ta := ta.below hb9
  have hw9 := Below.then hw hb9
  have hll := Lib.hid rv9.1
  have HPR := Lib.hid (made_prt HCK.out (by rw [hll.out]; exact hj1) (by rw [hll.out]; omega) HF.out HI.out)
  have hmost := part_most HPR.out.part.1
  have hlong := part_long ts K m G l
  rw [hlt.out, hll.out] at hmost
  have hml : N * j9 ≤ 8 * 40 := Nat.mul_le_mul hN hj2
  obtain ⟨pl, hpl⟩ : ∃ pl, (partL ts K m G l).length = pl := ⟨_, rfl⟩
  rw [hpl] at hmost hlong
  have HPL := Lib.hid hpl
  have hplm : pl ≤ 100000 := by omega
  obtain ⟨zs, hzs⟩ : ∃ zs, partL ts K m G l = zs := ⟨_, rfl⟩
  rw [hzs] at HPR HPL
  have HZ := Lib.hid hzs
  have HB := Lib.hid (show Byt zs by rw [← hzs]; exact HPR.out.part.1.byt)
  obtain ⟨c0, c1, c2, c3⟩ := id hx9
  clear hv hx hw hmost hml hpl hb9
  go_wp2_with fail
  refine (pwrite_any A N C ts K m G a9 j9 c9 l _ hv9 hN1 hC1 rv9 (few_max (by omega)) HPR.out.rg).mono ?_
  rintro e w10 (⟨-, v10, rfl, ou10, hb10⟩ | ⟨hbad, -⟩)
  case inr => exact absurd HPR.out.ok hbad
  rw [Int.toNat_natCast, Int.toNat_natCast, hzs] at ou10
  obtain ⟨a10, c10, rfl, h101, -, bv10, -⟩ := ou10.ow.bvn HB.out pl HPL.out
  have ta := ta.below hb10
  have hw10 := Below.then hw9 hb10
  have hlong2 : ¬ (pl : Int) < 20 := by omega
  obtain ⟨k, hk⟩ : ∃ k : Nat, a0.tmod (pl : Int) = (k : Int) ∧ k < pl := by
    have e1 := Int.emod_nonneg a0 (show (pl : Int) ≠ 0 by omega)
    have e2 := Int.emod_lt_of_pos a0 (show (0 : Int) < pl by omega)
    rw [Int.tmod_eq_emod_of_nonneg h0.1]
    exact ⟨(a0 % (pl : Int)).toNat, by omega, by omega⟩
  obtain ⟨hkm, hkl⟩ := hk
  have hw0 : IntKind.i64.wrap a0 = a0 := by rw [IntKind.wrap_i64]; omega
  have hplz : ((pl : Int) == 0) = false := by rw [beq_eq_false_iff_ne]; omega
  have hwk : IntKind.i64.wrap (k : Int) = (k : Int) := by rw [IntKind.wrap_i64]; omega
  have d0 := ta.cell 0 (v := .int .u16 a0) rfl
  have d1 := ta.cell 1 (v := .int .u16 a1) rfl
  clear c0 c1 c2 c3 ou10 hb10 hv9 hx9 rv9 hw9
  go_wp2_with (at_builtin; refine append_ow rfl (.tmp 41) (.tmp 42) rfl w10.heap.size _ [] rfl (OW.empty _ _ (Nat.le_refl _) _ rfl) _ pl _ zs rfl (bv10.alloc _) (by simp only [List.length_nil]; omega) (by rw [heap_alloc]; omega) ?_; intro v11 w11 ho11 hb11; rw [List.nil_append] at ho11; obtain ⟨g, c11, rfl, hc11, hgg⟩ := ho11.slice_of pl HPL.out (by omega); have d2 := keepc d0 ((Joins.below_alloc1 w10 (.cells #[] 5)).trans hb11); have d3 := keepc d1 ((Joins.below_alloc1 w10 (.cells #[] 5)).trans hb11))
  have hcg := ho11.at k hkl
  have hfz := ho11.free k
  obtain ⟨c, hcd⟩ : ∃ c, c = zs.getD k 0 := ⟨_, rfl⟩
  rw [← hcd] at hcg
  have hcb : 0 ≤ c ∧ c ≤ 255 := by apply HB.out; rw [hcd]; simp [List.getD, show k < zs.length from by rw [HPL.out]; exact hkl]
  have HCD := Lib.hid hcd
  have hki : (k : Int) < (pl : Int) := by omega
  clear hcd
  obtain ⟨r, hr0⟩ : ∃ r : Nat, a1 % 255 = (r : Int) ∧ r < 255 := ⟨(a1 % 255).toNat, by omega, by omega⟩
  obtain ⟨hr1, hr9⟩ := hr0
  have hr2 : a1.tmod 255 = (r : Int) := by rw [Int.tmod_eq_emod_of_nonneg h1.1]; exact hr1
  have hr3 : IntKind.u16.wrap (r : Int) = (r : Int) := by rw [IntKind.wrap_u16]; omega
  obtain ⟨y, hy⟩ : ∃ y : Nat, y = 1 + r := ⟨_, rfl⟩
  have hy1 : IntKind.u16.wrap (1 + (r : Int)) = (y : Int) := by rw [IntKind.wrap_u16]; omega
  have hy2 : IntKind.u8.wrap (y : Int) = (y : Int) := by rw [IntKind.wrap_u8']; omega
  obtain ⟨c', hc'⟩ : ∃ c' : Nat, c.toNat ^^^ y = c' := ⟨_, rfl⟩
  have hx : bits BinOp.xor IntKind.u8 c (y : Int) = (c' : Int) := by rw [u8_xor c y hcb.1 (by omega) (by omega) (by omega), Int.toNat_natCast, hc']
  have hc'b : c' < 256 := by rw [← hc']; exact xor_lt8 (by omega) (by omega)
  have hne : Hid ((c' : Int) ≠ c) := Lib.hid (fun e => by
    have h2 : c.toNat ^^^ y = c.toNat := by omega
    have h3 : c.toNat ^^^ (c.toNat ^^^ y) = 0 := by rw [h2, Nat.xor_self]
    rw [← Nat.xor_assoc, Nat.xor_self, Nat.zero_xor] at h3
    omega)
  have ho12 := ho11.set k (c' : Int) hkl
  have hbb : Hid (Byt (zs.set k (c' : Int))) := Lib.hid (fun z hz => (List.mem_or_eq_of_mem_set hz).elim (HB.out z) (fun h => by rw [h]; omega))
  have hw11 := Below.then hw10 ((Joins.below_alloc1 w10 (.cells #[] 5)).trans hb11)
  have hw12 := hw11.setCell (p := ⟨g, k, none⟩) (by have := hw10.size; show w.heap.size ≤ g; omega) (.int .u8 (c' : Int))
  clear hy hc' hr9
  refine wp_region_noPanic ?_
  refine region_g 13 (Ext (World.drew _)) (by kernel_rfl) (Ext.refl _) (fun hS => ?_)
  refine take_w (i := 0) (v := ?_) (some 50) rfl (by kernel_rfl) rfl (fun _ _ _ h => h) (Or.inl ⟨by rfl, ?_⟩) hS ?_
  rotate_left
  · (intro wq hq; go_simp); first | done | with_reducible rfl
  try simp only [Act.put, List.setIfInBounds_toArray, List.set_cons_zero, List.set_cons_succ]
  replace hS := Till.list 0 hS
  refine take_w (i := 1) (v := ?_) (some 51) rfl (by kernel_rfl) rfl (fun _ _ _ h => h) (Or.inl ⟨by rfl, ?_⟩) hS ?_
  rotate_left
  · (intro wq hq; go_simp); first | done | with_reducible rfl
  try simp only [Act.put, List.setIfInBounds_toArray, List.set_cons_zero, List.set_cons_succ]
  replace hS := Till.list 1 hS
  refine take_w (i := 2) (v := ?_) (some 52) rfl (by kernel_rfl) rfl (fun _ _ _ h => h) (Or.inl ⟨by rfl, ?_⟩) hS ?_
  rotate_left
  · (intro wq hq; go_simp); first | done | with_reducible rfl
  try simp only [Act.put, List.setIfInBounds_toArray, List.set_cons_zero, List.set_cons_succ]
  replace hS := Till.list 2 hS
  refine take_w (i := 3) (v := ?_) (some 53) rfl (by kernel_rfl) rfl (fun _ _ _ h => h) (Or.inl ⟨by rfl, ?_⟩) hS ?_
  rotate_left
  · (intro wq hq; go_simp); first | done | with_reducible rfl
  try simp only [Act.put, List.setIfInBounds_toArray, List.set_cons_zero, List.set_cons_succ]
  replace hS := Till.list 3 hS
  refine take_w (i := 6) (v := ?_) (some 56) rfl (by kernel_rfl) rfl (fun _ _ _ h => h) (Or.inl ⟨by rfl, ?_⟩) hS ?_
  rotate_left
  · (intro wq hq; go_simp); first | done | with_reducible rfl
  try simp only [Act.put, List.setIfInBounds_toArray, List.set_cons_zero, List.set_cons_succ]
  replace hS := Till.list 6 hS
  refine take_w (i := 4) (v := ?_) (some 54) rfl (by kernel_rfl) rfl (fun _ _ _ h => h) (Or.inl ⟨by rfl, ?_⟩) hS ?_
  rotate_left
  · (intro wq hq; go_simp); first | done | with_reducible rfl
  try simp only [Act.put, List.setIfInBounds_toArray, List.set_cons_zero, List.set_cons_succ]
  replace hS := Till.list 4 hS
  refine take_g (i := 7) (v := ?_) [7] (some 57) rfl (by kernel_rfl) rfl (fun _ _ _ h => h) (Or.inl ⟨by rfl, ?_⟩) hS ?_
  rotate_left
  · (intro wq hq; have q0 := hq _ _ _ hcg; have q1 := hq _ _ _ d3; go_simp); first | done | with_reducible rfl
  try simp only [Act.put, List.setIfInBounds_toArray, List.set_cons_zero, List.set_cons_succ]
  replace hS := Till.list 7 hS
  refine take_g (i := 5) (v := ?_) [5] (some 55) rfl (by kernel_rfl) rfl (fun _ _ _ h => h) (Or.inl ⟨by rfl, ?_⟩) hS ?_
  rotate_left
  · (intro wq hq; have q0 := hq _ _ _ hcg; have q1 := hq _ _ _ d3; go_simp); first | done | with_reducible rfl
  try simp only [Act.put, List.setIfInBounds_toArray, List.set_cons_zero, List.set_cons_succ]
  replace hS := Till.list 5 hS
  refine take_w (i := 8) (v := ?_) (some 58) rfl (by kernel_rfl) rfl (fun _ _ _ h => h) (Or.inl ⟨by rfl, ?_⟩) hS ?_
  rotate_left
  · (intro wq hq; go_simp); first | done | with_reducible rfl
  try simp only [Act.put, List.setIfInBounds_toArray, List.set_cons_zero, List.set_cons_succ]
  replace hS := Till.list 8 hS
  refine take_w (i := 9) (v := ?_) (some 59) rfl (by kernel_rfl) rfl (fun _ _ _ h => h) (Or.inl ⟨by rfl, ?_⟩) hS ?_
  rotate_left
  · (intro wq hq; go_simp); first | done | with_reducible rfl
  try simp only [Act.put, List.setIfInBounds_toArray, List.set_cons_zero, List.set_cons_succ]
  replace hS := Till.list 9 hS
  refine take_w (i := 10) (v := ?_) (some 60) rfl (by kernel_rfl) rfl (fun _ _ _ h => h) (Or.inl ⟨by rfl, ?_⟩) hS ?_
  rotate_left
  · (intro wq hq; go_simp); first | done | with_reducible rfl
  try simp only [Act.put, List.setIfInBounds_toArray, List.set_cons_zero, List.set_cons_succ]
  replace hS := Till.list 10 hS
  refine take_w (i := 11) (v := ?_) (some 61) rfl (by kernel_rfl) rfl (fun _ _ _ h => h) (Or.inl ⟨by rfl, ?_⟩) hS ?_
  rotate_left
  · (intro wq hq; go_simp); first | done | with_reducible rfl
  try simp only [Act.put, List.setIfInBounds_toArray, List.set_cons_zero, List.set_cons_succ]
  replace hS := Till.list 11 hS
  refine take_w (i := 12) (v := ?_) (some 62) rfl (by kernel_rfl) rfl (fun _ _ _ h => h) (Or.inl ⟨by rfl, ?_⟩) hS ?_
  rotate_left
  · (intro wq hq; go_simp); first | done | with_reducible rfl
  try simp only [Act.put, List.setIfInBounds_toArray, List.set_cons_zero, List.set_cons_succ]
  replace hS := Till.list 12 hS
  refine ready_g (rs := [13]) (by kernel_rfl) (by simp) ?_
  refine AllReadyG.cons rfl (fun Kont hK => ?_) AllReadyG.nil
  go_simp
  refine hK.out _ _ (Or.inl (by kernel_rfl)) (fun hS0 => ?_)
  clear hK Kont
  try simp only [Act.put, List.setIfInBounds_toArray, List.set_cons_zero, List.set_cons_succ]
  clear hS
  have hS := hS0
  clear hS0
  refine done_g (by kernel_rfl) (NoPanic.normal ?_) _
  clear hS
  obtain ⟨a12, c12, hA, h121, -, bv12, -⟩ := ho12.bvn hbb.out pl (by rw [List.length_set]; exact HPL.out)
  cases hA
  have hbx := hw12.drew
  clear ho11 ho12 hb11 hcg hfz hw11 hw12 d0 d1 d2 d3 ta bv10 hx hr1 hr2 hr3 hy1 hy2
  generalize w11.setCell ⟨g, k, none⟩ (.int .u8 (c' : Int)) = w12 at *
  have bv13 : BV w12.drew (some ⟨g, 0, none⟩) pl (zs.set k (c' : Int)) := bv12
  go_wp2_with fail
  refine (popen_any _ pl c11 _ _ bv13 h121 (by omega)).mono ?_
  rintro e w14 ⟨⟨p, ts', K', m', G', l', rfl, -, -, hpr'⟩ | ⟨rfl, hno⟩, hb14⟩
  · refine absurd (part_told HPR.out.part.1 hpr'.out.part.1 HG8.out (k := k) (c := (c' : Int)) (by rw [HZ.out, HPL.out]; exact hkl) (by omega) (by rw [HZ.out, ← HCD.out]; exact hne.out) (by rw [HZ.out]; exact hpr'.out.is)) (fun h => h)
  · have hw14 := Below.then hbx hb14
    go_wp2_with fail
    go_ret
    exact ⟨rfl, hw14⟩
end Go.Proofs.YtbfihajgjbpmaaaGreat
/-
  PartTurns: for every shape, every list of rows and every two numbers the statement's function returns true, and its arguments read as they did. No condition.
-/
namespace Go.Proofs.YtbfihajgjbpmaaaGreat.partTurns
open Go.ChangeShapes Go.WideShapes Go.ChangeAt Go.RowKit
set_option linter.unusedVariables false
set_option maxRecDepth 4000

set_option maxRecDepth 100000 in
theorem lifted (os : Os) (started : os.Started) (H : Type) (enc : TypeId × Value → H) :
    ReturnsInHanded {} Tryz.checked os 5 .any (Rows.partTurnsSpec.pre6 enc Tryz.prog Tryz.f5 Rows.partTurnsRow.domain false) (Rows.partTurnsSpec.post enc Tryz.prog Tryz.f5 false true false false) := by
  refine returnsInHanded_of_change (C := Tryz.checked) own started (by kernel_rfl) Tryz.func5
    (ChangeSpec.witness6 (enc := enc) (C := Tryz.checked) false ⟨#[], #[.agg #[.int .u8 0, .int .u8 0, .int .u8 0, .int .u8 0, .int .u8 0, .int .u8 0, .int .u8 0, .int .u8 0, .int .u8 0, .int .u8 0, .int .u8 0, .int .u8 0], .slice none 0 0, .agg #[.int .u16 0, .int .u16 0]], []⟩ 8 (by kernel_rfl) (by kernel_rfl) (by kernel_rfl) (by kernel_rfl)) ?_
  intro W base args ds gs before hval0 hW hcnd _
  have hval : ∀ (j : Nat) t v, Tryz.f5.params[j]? = some t → args[j]? = some v → Value.okWide Tryz.prog W .any base t v := hval0
  have hW' := hW
  obtain ⟨p, q, hA0, hV, rfl, hfz, hnd⟩ := hW
  have hA : DataW.TrodAll enc Tryz.prog W 0 (fun _ => true) true Tryz.f5.params.toList args.toList ds p := hA0
  rw [Tryz.params5] at hA hval
  obtain ⟨v0, vs0, d0, ds0, p0, q0, hargs0, rfl, rfl, h0, r0⟩ := trodAll_cons hA
  obtain ⟨v1, vs1, d1, ds1, p1, q1, hargs1, hds1, hq1, h1, r1⟩ := trodAll_cons r0
  obtain ⟨v2, vs2, d2, ds2, p2, q2, hargs2, hds2, hq2, h2, r2⟩ := trodAll_cons r1
  obtain ⟨hn1, hn2, hn3⟩ := trodAll_nil r2
  subst hn2 hn3
  subst hds2 hq2
  subst hds1 hq1
  obtain rfl : args = #[v0, v1, v2] := by cases args; simp_all
  obtain ⟨rfl, rfl⟩ := trodVars_none hV
  have rd0 := h0
  have lt0 : ∀ x ∈ p0, x.block < W.heap.size := by obtain ⟨m, hm⟩ := rd0; exact DataW.trod_lt m _ _ _ hm
  obtain ⟨la0, lb0, lc0, ld0, le0, lf0, lg0, lh0, na0, nb0, nc0, nd0, rfl, S0⟩ := open_shape (hval 0 40 v0 rfl rfl) h0
  have rd1 := h1
  have lt1 : ∀ x ∈ p1, x.block < W.heap.size := by obtain ⟨m, hm⟩ := rd1; exact DataW.trod_lt m _ _ _ hm
  obtain ⟨A1, n1, c1, v1, rfl, W1, L1, R1⟩ := open_rows4 (hval 1 25 v1 rfl rfl) h1
  have rd2 := h2
  have lt2 : ∀ x ∈ p2, x.block < W.heap.size := by obtain ⟨m, hm⟩ := rd2; exact DataW.trod_lt m _ _ _ hm
  obtain ⟨a2, b2, rfl, HA2, HB2⟩ := open_two16 (hval 2 56 v2 rfl rfl) h2
  clear hA0 hval0
  refine (turnsB_is S0 A1 n1 c1 v1 a2 b2 W W1 L1 R1 HA2 HB2).mono fun e W' ⟨he, bel⟩ => ?_
  subst he
  exact ⟨_, rfl, _, _, _, [], _, [], hW', trodAll_mk1 (shut_bool Tryz.underlying4 _), (trodAll_cons_mk (Below.trod laidOut (by kernel_rfl) (of_decide_eq_true (by kernel_rfl)) rd0 bel lt0) (trodAll_cons_mk (Below.trod laidOut (by kernel_rfl) (of_decide_eq_true (by kernel_rfl)) rd1 bel lt1) (trodAll_cons_mk (Below.trod laidOut (by kernel_rfl) (of_decide_eq_true (by kernel_rfl)) rd2 bel lt2) trodAll_mk0))), rfl, bel.frame _, fun h => by cases h⟩

theorem over : Rows.partTurnsRow.holds Tryz.pinned (OpenSpec.ofChange Rows.partTurnsSpec) :=
  OpenClaim.holds_of_wide 5 Tryz.f5 rfl rfl rfl rfl rfl rfl rfl ⟨rfl, rfl, rfl, rfl, rfl⟩ rfl rfl rfl rfl rfl (by kernel_rfl) Tryz.func5 (by kernel_rfl)
    (of_decide_eq_true (by kernel_rfl)) (by unfold Func.isWrapper; first | (rw [if_pos (by decide +kernel)]; kernel_rfl) | (rw [if_neg (by decide +kernel)]; exact ⟨rfl, rfl⟩))
    (fun os started H enc _ => lifted os started H enc)
end Go.Proofs.YtbfihajgjbpmaaaGreat.partTurns
namespace Go.Proofs.YtbfihajgjbpmaaaGreat
theorem partTurns_holds : Rows.PartTurnsSaid := partTurns.over
end Go.Proofs.YtbfihajgjbpmaaaGreat
