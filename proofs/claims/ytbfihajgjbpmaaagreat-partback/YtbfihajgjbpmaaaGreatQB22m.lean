/-
  PartBack: for every shape, every list of rows and every number the statement's function returns true, and its arguments read as they did. No condition.
-/
import Derived.Test.YtbfihajgjbpmaaaGreatPrtE
import Derived.Test.YtbfihajgjbpmaaaGreatPartP
import Derived.Test.YtbfihajgjbpmaaaGreatGrnQ
import Derived.Test.YtbfihajgjbpmaaaGreatRows
import Derived.WalkKit
import Derived.ProofKit
import Derived.OpenShut
import Derived.ShutString
import Derived.ChangeOld
import Derived.Below
import Derived.Test.YtbfihajgjbpmaaaGreatSchC
import Derived.Test.YtbfihajgjbpmaaaGreatBase
/- PartBack: the walk. -/
namespace Go.Proofs.YtbfihajgjbpmaaaGreat
open Go.ChangeShapes Go.WideShapes Go.ChangeAt Go.RowKit
set_option linter.unusedVariables false
set_option maxRecDepth 4000

/-- rows that lie beside the own block of v -/
def PRN (w : World) (ps : List P9) (v : Value) : Prop := ∀ p ∈ ps, rowRep.rep w (sV p.1) p.2 (fun b => v.ownBlock ≠ some b ∧ b < w.heap.size)
theorem PRN.pr {w : World} {ps : List P9} {v : Value} (h : PRN w ps v) : PR w ps := fun p hp => (h p hp).1
theorem PRN.below {w w' : World} {ps : List P9} {v : Value} (h : PRN w ps v) (hb : Below w.heap.size w w') : PRN w' ps v := fun p hp =>
  rowRep.wider (rowRep.frame (h p hp) (fun b _ hl => hb.block b hl)) (fun b q => ⟨q.1, Nat.lt_of_lt_of_le q.2 hb.size⟩)
/-- behind an append to v: some more -/
theorem PRN.app {w w' : World} {ps qs : List P9} {v v' : Value} (h : PRN w ps v) (hq : PRN w qs v) (hs : w.heap.size ≤ w'.heap.size) (hk : v'.ownBlock = v.ownBlock ∨ v'.ownBlock = some w.heap.size)
    (hst : ∀ b, b < w.heap.size → v.ownBlock ≠ some b → w'.heap[b]? = w.heap[b]?) : PRN w' (ps ++ qs) v' := fun p hp => by
  have h1 : rowRep.rep w (sV p.1) p.2 (fun b => v.ownBlock ≠ some b ∧ b < w.heap.size) := (List.mem_append.1 hp).elim (h p) (hq p)
  refine rowRep.wider (rowRep.frame h1 (fun b q hl => hst b hl q.1)) (fun b q => ⟨fun e => ?_, Nat.lt_of_lt_of_le q.2 hs⟩)
  rcases hk with hk | hk
  · exact q.1 (hk ▸ e)
  · rw [hk] at e
    have := Option.some.inj e
    have := q.2
    omega
theorem CpR.pairs {w : World} {M gb n : Nat} {l : List RowV} (h : CpR w M gb n l) : ∃ qs : List P9, SV 1 w (some ⟨gb, 0, none⟩) n (pc qs) ∧ qs.map (·.2) = l ∧ ∀ v : Value, (∀ b, v.ownBlock = some b → b < M) → PRN w qs v := by
  obtain ⟨ps, h1, h2, h3, h4, h5⟩ := h
  refine ⟨ps, pcF_full h3 h1, h2, fun v hv p hp => rowRep.wider (rowRep.shrink (rowRep.own (h5 p hp))) (fun b q => ⟨fun e => ?_, q.2⟩)⟩
  have h6 := hv b e
  have h7 := q.1
  omega
theorem take_gran11 {α : Type} (G i : Nat) (l : List α) : l.take (i * G) ++ granL G l i = l.take ((i + 1) * G) := by
  unfold granL
  rw [Nat.succ_mul, List.take_add]
/-- a row against its own first values -/
theorem cR_mark {ts : List Int} {K : Nat} {l : List RowV} (hl : InA (cN ts K) l) (hF : ∀ v ∈ l, FR ts v) (ht : Ty ts) {x : Nat} (hx : x < l.length) : cR (ts.take K) (l.getD x []) ((l.getD x []).take K) = 0 := by
  rw [cR_cut2]
  have h1 := cR_in hl hF ht (Nat.le_refl x) hx
  have h2 := cR_up hl hF ht (Nat.le_refl x) hx
  omega
set_option maxHeartbeats 16000000 in
theorem backB_is {l0 l1 l2 l3 l4 l5 l6 l7 n keys mode grain : Int} (h : ShW l0 l1 l2 l3 l4 l5 l6 l7 n keys mode grain) (R : Option Addr) (nr cr : Nat) (vss : List RowV) (at0 : Int) (w : World)
    (hr : RVs w R nr vss) (hnr : nr ≤ maxLen) (hg : ∀ v ∈ vss, RgV v) (h0 : 0 ≤ at0 ∧ at0 ≤ 65535) :
    Calls Tryz.prog 4 #[ShV l0 l1 l2 l3 l4 l5 l6 l7 n keys mode grain, .slice R nr cr, .int .u16 at0] w fun e w' => e = .returned (.bool true) ∧ Below w.heap.size w w' := by
  go_enter Tryz.func4, Tryz.ntmps4
  go_wp2_with fail
  refine (shownB_is _).mono ?_
  rintro e w1 ⟨rfl, hb1⟩
  have t1 := (Bk.new w (shC l0 l1 l2 l3 l4 l5 l6 l7 n keys mode grain) 40).below hb1
  have hw1 := after1 hb1
  have hr := hr.below hw1
  skip
  clear hb1
  obtain ⟨⟨x0, x1, x2, x3⟩, ⟨x4, x5, x6, x7⟩, ⟨x8, x9, x10, x11⟩⟩ := t1.shape
  go_wp2_with fail
  refine (madeB_eight h _).mono ?_
  rintro e w2 ⟨A, N, C, K, m, g, ts, rfl, hk, hN, hg8, ho, hb2⟩
  clear x0 x1 x2 x3 x4 x5 x6 x7 x8 x9 x10 x11 t1
  obtain ⟨_, _, hA, hC1, hC2, hv, -⟩ := ho.sv
  cases hA
  obtain ⟨G, rfl⟩ : ∃ G : Nat, g = (G : Int) := ⟨g.toNat, by have := (check_is hk).2.2.2.2.2.2.1; omega⟩
  have hG : 1 ≤ G ∧ G ≤ 64 := by have h1 := (check_is hk).2.2.2.2.2.2.1; have h2 := (check_is hk).2.2.2.2.2.2.2.1; omega
  have hkk := Lib.hid (MadeG.keys hk)
  have hty : Hid (Ty ts) := Lib.hid (check_is hk).2.2.2.2.2.2.2.2
  have hlt := Lib.hid (IV.len hv)
  have HCK := Lib.hid hk
  have HG8 : Hid (G ≤ 8) := Lib.hid (by omega)
  clear hg8
  have hx := Sx.new w2 A N C K m (G : Int) 24
  have hr := (hr.below hb2).alloc (.cells #[.slice A N C, .int .i64 K, .int .i64 m, .int .i64 (G : Int)] 24)
  have hv := hv.alloc (.cells #[.slice A N C, .int .i64 K, .int .i64 m, .int .i64 (G : Int)] 24)
  have hw := (Below.then hw1 hb2).alloc (by have := (Below.then hw1 hb2).size; omega) (.cells #[.slice A N C, .int .i64 K, .int .i64 m, .int .i64 (G : Int)] 24)
  skip
  have hN1 : N ≤ maxLen := few_max (by omega)
  have hK1 : K ≤ maxLen := few_max (by have := hkk.out; omega)
  go_wp2_with fail
  generalize w2.alloc (.cells #[.slice A N C, .int .i64 K, .int .i64 m, .int .i64 (G : Int)] 24) = w3 at *
  generalize w2.heap.size = bs at *
  clear ho hb2 hw1 hk
  have HRG : Hid (∀ v ∈ ([] : RowV) :: fewR vss, RgV v) := Lib.hid (fun v hv => by
    rcases List.mem_cons.1 hv with rfl | hv
    · exact fun x hx => by cases hx
    · exact fewR_rg hg v hv)
  obtain ⟨c0, c1, c2, c3⟩ := id hx
  go_cut [9] (fun v wx => ∃ (a : Option Addr) (j c : Nat) (l : List RowV), v = .slice a j c ∧ RVs wx a j l ∧ 1 ≤ j ∧ j ≤ 40 ∧ Hid (∀ v ∈ l, FR ts v) ∧ Hid (InA (cN ts K) l) ∧ Below w3.heap.size w3 wx)
  case first => as_aux_lemma =>
    refine wp_region_noPanic ?_
    refine region_g 8 (Ext (World.drew _)) (by kernel_rfl) (Ext.refl _) (fun hS => ?_)
    refine take_g (i := 0) (v := ?_) [0] (some 29) rfl (by kernel_rfl) rfl (fun _ _ _ h => h) (Or.inl ⟨by rfl, ?_⟩) hS ?_
    rotate_left
    · (intro wq hq; have q0 := hq _ _ _ c0; have q1 := hq _ _ _ c1; have q2 := hq _ _ _ c2; have q3 := hq _ _ _ c3; go_simp); first | done | with_reducible rfl
    try simp only [Act.put, List.setIfInBounds_toArray, List.set_cons_zero, List.set_cons_succ]
    replace hS := Till.list 0 hS
    refine take_g (i := 1) (v := ?_) [7, 1] (some 30) rfl (by kernel_rfl) rfl (fun _ _ _ h => h) (Or.inl ⟨by rfl, ?_⟩) hS ?_
    rotate_left
    · (intro wq hq; have q0 := hq _ _ _ c0; have q1 := hq _ _ _ c1; have q2 := hq _ _ _ c2; have q3 := hq _ _ _ c3; go_simp); first | done | with_reducible rfl
    try simp only [Act.put, List.setIfInBounds_toArray, List.set_cons_zero, List.set_cons_succ]
    replace hS := Till.list 1 hS
    refine take_w (i := 4) (v := ?_) (some 33) rfl (by kernel_rfl) rfl (fun _ _ _ h => h) (Or.inl ⟨by rfl, ?_⟩) hS ?_
    rotate_left
    · (intro wq hq; go_simp); first | done | with_reducible rfl
    try simp only [Act.put, List.setIfInBounds_toArray, List.set_cons_zero, List.set_cons_succ]
    replace hS := Till.list 4 hS
    refine ready_g (rs := [2, 5]) (by kernel_rfl) (by simp) ?_
    refine (AllReadyG.cons rfl (fun Kont hK => ?_) (AllReadyG.cons rfl (fun Kont hK => ?_) AllReadyG.nil))
    · skip
      go_simp
      refine hK.out _ _ (Or.inr ((hS.get (by kernel_rfl)).alloc _)) (fun hS0 => ?_)
      clear hK Kont
      try simp only [Act.put, List.setIfInBounds_toArray, List.set_cons_zero, List.set_cons_succ]
      clear hS
      have hS := hS0
      clear hS0
      refine ready_g (rs := [3, 5]) (by kernel_rfl) (by simp) ?_
      refine (AllReadyG.cons rfl (fun Kont hK => ?_) (AllReadyG.cons rfl (fun Kont hK => ?_) AllReadyG.nil))
      · skip
        go_simp
        refine hK.out _ _ (Or.inr ((hS.get (by kernel_rfl)).alloc _)) (fun hS0 => ?_)
        clear hK Kont
        try simp only [Act.put, List.setIfInBounds_toArray, List.set_cons_zero, List.set_cons_succ]
        clear hS
        have hS := hS0
        clear hS0
        refine ready_g (rs := [5]) (by kernel_rfl) (by simp) ?_
        refine AllReadyG.cons rfl (fun Kont hK => ?_) AllReadyG.nil
        go_simp
        refine (fewB_any R nr cr vss _ (((hr.alloc (.cells #[] 62)).alloc (.cells #[.slice (some ⟨w3.heap.size, 0, none⟩) 0 0] 46)).below (Below.refl _ _).drew) hnr).mono ?_
        rintro e w5 ⟨j5, v5, rfl, hj5, of5, hbf⟩
        obtain ⟨A5, C5, rfl, rf5⟩ := of5.rvs
        have bk5 := Bk.below (w := ((w3.alloc (.cells #[] 62)).alloc (.cells #[.slice (some ⟨w3.heap.size, 0, none⟩) 0 0] 46)).drew) (Bk.new (w3.alloc (.cells #[] 62)) #[.slice (some ⟨w3.heap.size, 0, none⟩) 0 0] 46) hbf
        rw [heap_alloc] at bk5
        have ho5 := OS.below (w := ((w3.alloc (.cells #[] 62)).alloc (.cells #[.slice (some ⟨w3.heap.size, 0, none⟩) 0 0] 46)).drew) (OS.lit (k := 1) (w3.alloc (.cells #[] 62)) w3.heap.size (by simp) [.slice (some ⟨w3.heap.size, 0, none⟩) 0 0] 1 46 rfl (by simp [Value.oneCell']) (few_max (by omega)) (w3.heap.size + 1) (by simp)) hbf
        have hb5 : Below w3.heap.size w3 w5 := Below.then (Joins.below_alloc2 w3 (.cells #[] 62) (.cells #[.slice (some ⟨w3.heap.size, 0, none⟩) 0 0] 46)).drew hbf
        refine hK.out _ _ (Or.inr ((hS.get (by kernel_rfl)).trans (Ext.below hbf))) (fun hS0 => ?_)
        clear hK Kont
        try simp only [Act.put, List.setIfInBounds_toArray, List.set_cons_zero, List.set_cons_succ]
        clear hS
        have hS := hS0
        clear hS0
        clear hbf of5
        refine ready_g (rs := [6]) (by kernel_rfl) (by simp) ?_
        refine AllReadyG.cons rfl (fun Kont hK => ?_) AllReadyG.nil
        refine want (by kernel_rfl) ?_
        obtain ⟨qs5, sq1, sq2, sq3⟩ := rf5.pairs
        refine wp_append_os2 el_rows (some 35) rfl (.tmp 32) (.tmp 34) rfl w3.heap.size _ 1 _ rfl ho5 A5 j5 C5 (pc qs5) rfl sq1 (by omega) (by omega) hb5.size ?_
        intro v6 w6 ho6 hb6 hk6 hst6
        obtain ⟨a6, c6, rfl, rv6⟩ := start_rows bk5 sq3 ho6 hst6
        rw [sq2] at rv6
        have hw6 := hb5.trans hb6
        have hv6 := hv.below hw6
        refine hK.out _ _ (Or.inr (((hS.get (by kernel_rfl)).low hb6 (Nat.le_refl _)))) (fun hS0 => ?_)
        clear hK Kont
        try simp only [Act.put, List.setIfInBounds_toArray, List.set_cons_zero, List.set_cons_succ]
        clear hS
        have hS := hS0
        clear hS0
        clear ho6 hk6 hst6 hb6 ho5 bk5 rf5 sq1 sq2 sq3 hb5
        refine ready_g (rs := [7]) (by kernel_rfl) (by simp) ?_
        refine AllReadyG.cons rfl (fun Kont hK => ?_) AllReadyG.nil
        go_simp
        refine (fits_rows A N C ts K m (G : Int) a6 (1 + j5) c6 ([] :: fewR vss) 40 w6 hv6 (by omega) rv6 (few_max (by omega)) (by omega)).mono ?_
        have hF := fitsL_fr hty.out HRG.out 40
        have hfl := fitsL_len ts ([] :: fewR vss) 40
        have hf1 := fitsL_one (ts := ts) (l := fewR vss)
        obtain ⟨fs, hfs⟩ : ∃ fs, fitsL ts ([] :: fewR vss) 40 = fs := ⟨_, rfl⟩
        rw [hfs] at hF hfl hf1 ⊢
        rintro e w7 ⟨j7, v7, rfl, hj7, o7, hb7⟩
        obtain ⟨a7, c7, rfl, rv7⟩ := o7.rvs
        have hv7 := hv6.below hb7
        have hw7 := Below.then hw6 hb7
        refine hK.out _ _ (Or.inr ((hS.get (by kernel_rfl)).trans (Ext.below hb7))) (fun hS0 => ?_)
        clear hK Kont
        try simp only [Act.put, List.setIfInBounds_toArray, List.set_cons_zero, List.set_cons_succ]
        clear hS
        have hS := hS0
        clear hS0
        refine ready_g (rs := [8]) (by kernel_rfl) (by simp) ?_
        refine AllReadyG.cons rfl (fun Kont hK => ?_) AllReadyG.nil
        go_simp
        obtain ⟨qs, hq1, hq2, hq3⟩ := rv7.pairs
        have HQ := Lib.hid hq2
        have HI : Hid (InA (cN ts K) (sortA (cN ts K) fs) ∧ ∀ v ∈ sortA (cN ts K) fs, FR ts v) := ⟨sortA_in (cN_ord hty.out K).a _, sorted_fr hF⟩
        refine (r9sort_any A N C ts K m (G : Int) a7 j7 c7 qs _ hv7 hN1 hK1 hq1 hq3 (by omega) (fun q hq => hF q.2 (by rw [← HQ.out]; exact List.mem_map.2 ⟨q, hq, rfl⟩))).mono ?_
        rintro e w8 ⟨v8, rfl, o8, hb8⟩
        obtain ⟨a8, c8, rfl, -, -, sv8, -⟩ := OS.sv o8
        have hlq : (sortA (cP ts K) qs).length = j7 := by rw [sortA_len]; have := hq1.1; rw [pc_len] at this; omega
        have hjf : Hid (j7 = fs.length) := Lib.hid (by have := rv7.1; omega)
        rw [hlq] at sv8
        have hs8 : (sortA (cP ts K) qs).map (·.2) = sortA (cN ts K) fs := by rw [← HQ.out]; exact sortA_map (cN ts K) (fun p : P9 => p.2) qs
        have rv8 := RVs.of sv8 (fun p hp => (hq3 p (sortA_mem.1 hp)).below hb8)
        rw [hs8] at rv8
        have hw8 := Below.then hw7 hb8
        rw [hlq]
        refine hK.out _ _ (Or.inl (by kernel_rfl)) (fun hS0 => ?_)
        clear hK Kont
        try simp only [Act.put, List.setIfInBounds_toArray, List.set_cons_zero, List.set_cons_succ]
        clear hS
        have hS := hS0
        clear hS0
        refine take_w (i := 9) (v := ?_) (some 9) rfl (by kernel_rfl) rfl (fun _ _ _ h => h) (Or.inl ⟨by rfl, ?_⟩) hS ?_
        rotate_left
        · (intro wq hq; go_simp); first | done | with_reducible rfl
        try simp only [Act.put, List.setIfInBounds_toArray, List.set_cons_zero, List.set_cons_succ]
        replace hS := Till.list 9 hS
        refine done_g (by kernel_rfl) (NoPanic.normal ?_) _
        clear hS
        clear sv8 o8 hq1 hq3 rv7 rv6
        go_wp2_with fail
        go_meet
        exact ⟨a8, j7, c8, sortA (cN ts K) fs, rfl, rv8, by have := hjf.out; omega, by omega, Lib.hid HI.out.2, Lib.hid HI.out.1, hw8⟩
      · skip
        go_simp
        refine (fewB_any R nr cr vss _ ((hr.alloc (.cells #[] 62)).below (Below.refl _ _).drew) hnr).mono ?_
        rintro e wf ⟨j5, v5, rfl, hj5, of5, hbf⟩
        obtain ⟨A5, C5, rfl, rf5⟩ := of5.rvs
        have bk5 := Bk.new wf #[.slice (some ⟨w3.heap.size, 0, none⟩) 0 0] 46
        have hbw : Below w3.heap.size w3 wf := Below.then (Joins.below_alloc1 w3 (.cells #[] 62)).drew hbf
        have ho5 := OS.lit (k := 1) wf w3.heap.size hbw.size [.slice (some ⟨w3.heap.size, 0, none⟩) 0 0] 1 46 rfl (by simp [Value.oneCell']) (few_max (by omega)) wf.heap.size rfl
        have hb5 := hbw.alloc hbw.size (.cells #[.slice (some ⟨w3.heap.size, 0, none⟩) 0 0] 46)
        have rf5 := rf5.alloc (.cells #[.slice (some ⟨w3.heap.size, 0, none⟩) 0 0] 46)
        refine hK.out _ _ (Or.inr ((hS.get (by kernel_rfl)).trans (Ext.below hbf))) (fun hS0 => ?_)
        clear hK Kont
        try simp only [Act.put, List.setIfInBounds_toArray, List.set_cons_zero, List.set_cons_succ]
        clear hS
        have hS := hS0
        clear hS0
        clear hbf of5 hbw
        refine ready_g (rs := [3]) (by kernel_rfl) (by simp) ?_
        refine AllReadyG.cons rfl (fun Kont hK => ?_) AllReadyG.nil
        go_simp
        refine hK.out _ _ (Or.inr ((hS.get (by kernel_rfl)).alloc _)) (fun hS0 => ?_)
        clear hK Kont
        try simp only [Act.put, List.setIfInBounds_toArray, List.set_cons_zero, List.set_cons_succ]
        clear hS
        have hS := hS0
        clear hS0
        refine ready_g (rs := [6]) (by kernel_rfl) (by simp) ?_
        refine AllReadyG.cons rfl (fun Kont hK => ?_) AllReadyG.nil
        refine want (by kernel_rfl) ?_
        obtain ⟨qs5, sq1, sq2, sq3⟩ := rf5.pairs
        refine wp_append_os2 el_rows (some 35) rfl (.tmp 32) (.tmp 34) rfl w3.heap.size _ 1 _ rfl ho5 A5 j5 C5 (pc qs5) rfl sq1 (by omega) (by omega) hb5.size ?_
        intro v6 w6 ho6 hb6 hk6 hst6
        obtain ⟨a6, c6, rfl, rv6⟩ := start_rows bk5 sq3 ho6 hst6
        rw [sq2] at rv6
        have hw6 := hb5.trans hb6
        have hv6 := hv.below hw6
        refine hK.out _ _ (Or.inr (((hS.get (by kernel_rfl)).low hb6 (Nat.le_refl _)))) (fun hS0 => ?_)
        clear hK Kont
        try simp only [Act.put, List.setIfInBounds_toArray, List.set_cons_zero, List.set_cons_succ]
        clear hS
        have hS := hS0
        clear hS0
        clear ho6 hk6 hst6 hb6 ho5 bk5 rf5 sq1 sq2 sq3 hb5
        refine ready_g (rs := [7]) (by kernel_rfl) (by simp) ?_
        refine AllReadyG.cons rfl (fun Kont hK => ?_) AllReadyG.nil
        go_simp
        refine (fits_rows A N C ts K m (G : Int) a6 (1 + j5) c6 ([] :: fewR vss) 40 w6 hv6 (by omega) rv6 (few_max (by omega)) (by omega)).mono ?_
        have hF := fitsL_fr hty.out HRG.out 40
        have hfl := fitsL_len ts ([] :: fewR vss) 40
        have hf1 := fitsL_one (ts := ts) (l := fewR vss)
        obtain ⟨fs, hfs⟩ : ∃ fs, fitsL ts ([] :: fewR vss) 40 = fs := ⟨_, rfl⟩
        rw [hfs] at hF hfl hf1 ⊢
        rintro e w7 ⟨j7, v7, rfl, hj7, o7, hb7⟩
        obtain ⟨a7, c7, rfl, rv7⟩ := o7.rvs
        have hv7 := hv6.below hb7
        have hw7 := Below.then hw6 hb7
        refine hK.out _ _ (Or.inr ((hS.get (by kernel_rfl)).trans (Ext.below hb7))) (fun hS0 => ?_)
        clear hK Kont
        try simp only [Act.put, List.setIfInBounds_toArray, List.set_cons_zero, List.set_cons_succ]
        clear hS
        have hS := hS0
        clear hS0
        refine ready_g (rs := [8]) (by kernel_rfl) (by simp) ?_
        refine AllReadyG.cons rfl (fun Kont hK => ?_) AllReadyG.nil
        go_simp
        obtain ⟨qs, hq1, hq2, hq3⟩ := rv7.pairs
        have HQ := Lib.hid hq2
        have HI : Hid (InA (cN ts K) (sortA (cN ts K) fs) ∧ ∀ v ∈ sortA (cN ts K) fs, FR ts v) := ⟨sortA_in (cN_ord hty.out K).a _, sorted_fr hF⟩
        refine (r9sort_any A N C ts K m (G : Int) a7 j7 c7 qs _ hv7 hN1 hK1 hq1 hq3 (by omega) (fun q hq => hF q.2 (by rw [← HQ.out]; exact List.mem_map.2 ⟨q, hq, rfl⟩))).mono ?_
        rintro e w8 ⟨v8, rfl, o8, hb8⟩
        obtain ⟨a8, c8, rfl, -, -, sv8, -⟩ := OS.sv o8
        have hlq : (sortA (cP ts K) qs).length = j7 := by rw [sortA_len]; have := hq1.1; rw [pc_len] at this; omega
        have hjf : Hid (j7 = fs.length) := Lib.hid (by have := rv7.1; omega)
        rw [hlq] at sv8
        have hs8 : (sortA (cP ts K) qs).map (·.2) = sortA (cN ts K) fs := by rw [← HQ.out]; exact sortA_map (cN ts K) (fun p : P9 => p.2) qs
        have rv8 := RVs.of sv8 (fun p hp => (hq3 p (sortA_mem.1 hp)).below hb8)
        rw [hs8] at rv8
        have hw8 := Below.then hw7 hb8
        rw [hlq]
        refine hK.out _ _ (Or.inl (by kernel_rfl)) (fun hS0 => ?_)
        clear hK Kont
        try simp only [Act.put, List.setIfInBounds_toArray, List.set_cons_zero, List.set_cons_succ]
        clear hS
        have hS := hS0
        clear hS0
        refine take_w (i := 9) (v := ?_) (some 9) rfl (by kernel_rfl) rfl (fun _ _ _ h => h) (Or.inl ⟨by rfl, ?_⟩) hS ?_
        rotate_left
        · (intro wq hq; go_simp); first | done | with_reducible rfl
        try simp only [Act.put, List.setIfInBounds_toArray, List.set_cons_zero, List.set_cons_succ]
        replace hS := Till.list 9 hS
        refine done_g (by kernel_rfl) (NoPanic.normal ?_) _
        clear hS
        clear sv8 o8 hq1 hq3 rv7 rv6
        go_wp2_with fail
        go_meet
        exact ⟨a8, j7, c8, sortA (cN ts K) fs, rfl, rv8, by have := hjf.out; omega, by omega, Lib.hid HI.out.2, Lib.hid HI.out.1, hw8⟩
    · skip
      go_simp
      refine (fewB_any R nr cr vss _ (hr.below (Below.refl _ _).drew) hnr).mono ?_
      rintro e wf ⟨j5, v5, rfl, hj5, of5, hbf⟩
      obtain ⟨A5, C5, rfl, rf5⟩ := of5.rvs
      have hbw : Below w3.heap.size w3 wf := Below.then (Below.refl w3.heap.size w3).drew hbf
      have bk5 := Bk.new (wf.alloc (.cells #[] 62)) #[.slice (some ⟨wf.heap.size, 0, none⟩) 0 0] 46
      rw [heap_alloc] at bk5
      have ho5 := OS.lit (k := 1) (wf.alloc (.cells #[] 62)) w3.heap.size (by have := hbw.size; rw [heap_alloc]; omega) [.slice (some ⟨wf.heap.size, 0, none⟩) 0 0] 1 46 rfl (by simp [Value.oneCell']) (few_max (by omega)) (wf.heap.size + 1) (by simp)
      have hb5 := (hbw.alloc hbw.size (.cells #[] 62)).alloc (by have := hbw.size; rw [heap_alloc]; omega) (.cells #[.slice (some ⟨wf.heap.size, 0, none⟩) 0 0] 46)
      have rf5 := (rf5.alloc (.cells #[] 62)).alloc (.cells #[.slice (some ⟨wf.heap.size, 0, none⟩) 0 0] 46)
      refine hK.out _ _ (Or.inr ((hS.get (by kernel_rfl)).trans (Ext.below hbf))) (fun hS0 => ?_)
      clear hK Kont
      try simp only [Act.put, List.setIfInBounds_toArray, List.set_cons_zero, List.set_cons_succ]
      clear hS
      have hS := hS0
      clear hS0
      clear hbf of5 hbw
      refine ready_g (rs := [2]) (by kernel_rfl) (by simp) ?_
      refine AllReadyG.cons rfl (fun Kont hK => ?_) AllReadyG.nil
      go_simp
      refine hK.out _ _ (Or.inr ((hS.get (by kernel_rfl)).alloc _)) (fun hS0 => ?_)
      clear hK Kont
      try simp only [Act.put, List.setIfInBounds_toArray, List.set_cons_zero, List.set_cons_succ]
      clear hS
      have hS := hS0
      clear hS0
      refine ready_g (rs := [3]) (by kernel_rfl) (by simp) ?_
      refine AllReadyG.cons rfl (fun Kont hK => ?_) AllReadyG.nil
      go_simp
      refine hK.out _ _ (Or.inr ((hS.get (by kernel_rfl)).alloc _)) (fun hS0 => ?_)
      clear hK Kont
      try simp only [Act.put, List.setIfInBounds_toArray, List.set_cons_zero, List.set_cons_succ]
      clear hS
      have hS := hS0
      clear hS0
      refine ready_g (rs := [6]) (by kernel_rfl) (by simp) ?_
      refine AllReadyG.cons rfl (fun Kont hK => ?_) AllReadyG.nil
      refine want (by kernel_rfl) ?_
      obtain ⟨qs5, sq1, sq2, sq3⟩ := rf5.pairs
      refine wp_append_os2 el_rows (some 35) rfl (.tmp 32) (.tmp 34) rfl w3.heap.size _ 1 _ rfl ho5 A5 j5 C5 (pc qs5) rfl sq1 (by omega) (by omega) hb5.size ?_
      intro v6 w6 ho6 hb6 hk6 hst6
      obtain ⟨a6, c6, rfl, rv6⟩ := start_rows bk5 sq3 ho6 hst6
      rw [sq2] at rv6
      have hw6 := hb5.trans hb6
      have hv6 := hv.below hw6
      refine hK.out _ _ (Or.inr (((hS.get (by kernel_rfl)).low hb6 (Nat.le_refl _)))) (fun hS0 => ?_)
      clear hK Kont
      try simp only [Act.put, List.setIfInBounds_toArray, List.set_cons_zero, List.set_cons_succ]
      clear hS
      have hS := hS0
      clear hS0
      clear ho6 hk6 hst6 hb6 ho5 bk5 rf5 sq1 sq2 sq3 hb5
      refine ready_g (rs := [7]) (by kernel_rfl) (by simp) ?_
      refine AllReadyG.cons rfl (fun Kont hK => ?_) AllReadyG.nil
      go_simp
      refine (fits_rows A N C ts K m (G : Int) a6 (1 + j5) c6 ([] :: fewR vss) 40 w6 hv6 (by omega) rv6 (few_max (by omega)) (by omega)).mono ?_
      have hF := fitsL_fr hty.out HRG.out 40
      have hfl := fitsL_len ts ([] :: fewR vss) 40
      have hf1 := fitsL_one (ts := ts) (l := fewR vss)
      obtain ⟨fs, hfs⟩ : ∃ fs, fitsL ts ([] :: fewR vss) 40 = fs := ⟨_, rfl⟩
      rw [hfs] at hF hfl hf1 ⊢
      rintro e w7 ⟨j7, v7, rfl, hj7, o7, hb7⟩
      obtain ⟨a7, c7, rfl, rv7⟩ := o7.rvs
      have hv7 := hv6.below hb7
      have hw7 := Below.then hw6 hb7
      refine hK.out _ _ (Or.inr ((hS.get (by kernel_rfl)).trans (Ext.below hb7))) (fun hS0 => ?_)
      clear hK Kont
      try simp only [Act.put, List.setIfInBounds_toArray, List.set_cons_zero, List.set_cons_succ]
      clear hS
      have hS := hS0
      clear hS0
      refine ready_g (rs := [8]) (by kernel_rfl) (by simp) ?_
      refine AllReadyG.cons rfl (fun Kont hK => ?_) AllReadyG.nil
      go_simp
      obtain ⟨qs, hq1, hq2, hq3⟩ := rv7.pairs
      have HQ := Lib.hid hq2
      have HI : Hid (InA (cN ts K) (sortA (cN ts K) fs) ∧ ∀ v ∈ sortA (cN ts K) fs, FR ts v) := ⟨sortA_in (cN_ord hty.out K).a _, sorted_fr hF⟩
      refine (r9sort_any A N C ts K m (G : Int) a7 j7 c7 qs _ hv7 hN1 hK1 hq1 hq3 (by omega) (fun q hq => hF q.2 (by rw [← HQ.out]; exact List.mem_map.2 ⟨q, hq, rfl⟩))).mono ?_
      rintro e w8 ⟨v8, rfl, o8, hb8⟩
      obtain ⟨a8, c8, rfl, -, -, sv8, -⟩ := OS.sv o8
      have hlq : (sortA (cP ts K) qs).length = j7 := by rw [sortA_len]; have := hq1.1; rw [pc_len] at this; omega
      have hjf : Hid (j7 = fs.length) := Lib.hid (by have := rv7.1; omega)
      rw [hlq] at sv8
      have hs8 : (sortA (cP ts K) qs).map (·.2) = sortA (cN ts K) fs := by rw [← HQ.out]; exact sortA_map (cN ts K) (fun p : P9 => p.2) qs
      have rv8 := RVs.of sv8 (fun p hp => (hq3 p (sortA_mem.1 hp)).below hb8)
      rw [hs8] at rv8
      have hw8 := Below.then hw7 hb8
      rw [hlq]
      refine hK.out _ _ (Or.inl (by kernel_rfl)) (fun hS0 => ?_)
      clear hK Kont
      try simp only [Act.put, List.setIfInBounds_toArray, List.set_cons_zero, List.set_cons_succ]
      clear hS
      have hS := hS0
      clear hS0
      refine take_w (i := 9) (v := ?_) (some 9) rfl (by kernel_rfl) rfl (fun _ _ _ h => h) (Or.inl ⟨by rfl, ?_⟩) hS ?_
      rotate_left
      · (intro wq hq; go_simp); first | done | with_reducible rfl
      try simp only [Act.put, List.setIfInBounds_toArray, List.set_cons_zero, List.set_cons_succ]
      replace hS := Till.list 9 hS
      refine done_g (by kernel_rfl) (NoPanic.normal ?_) _
      clear hS
      clear sv8 o8 hq1 hq3 rv7 rv6
      go_wp2_with fail
      go_meet
      exact ⟨a8, j7, c8, sortA (cN ts K) fs, rfl, rv8, by have := hjf.out; omega, by omega, Lib.hid HI.out.2, Lib.hid HI.out.1, hw8⟩
  obtain ⟨a9, j9, c9, l, rfl, rv9, hj1, hj2, HF, HI, hb9⟩ := hcut
  clear c0 c1 c2 c3 HRG
  have hv9 := SV.below hv hb9
  have hx9 := hx.below hb9
  have hw9 := Below.then hw hb9
  have hll := Lib.hid rv9.1
  have HPR := Lib.hid (made_prt HCK.out (by rw [hll.out]; exact hj1) (by rw [hll.out]; omega) HF.out HI.out)
  have hmost := part_most HPR.out.part.1
  have hlong := part_long ts K m G l
  rw [hlt.out, hll.out] at hmost
  have hml : N * j9 ≤ 8 * 40 := Nat.mul_le_mul hN hj2
  obtain ⟨pl, hpl⟩ : ∃ pl, (partL ts K m G l).length = pl := ⟨_, rfl⟩
  rw [hpl] at hmost hlong
  have HPL := Lib.hid hpl
  have hplm : pl ≤ 100000 := by omega
  obtain ⟨zs, hzs⟩ : ∃ zs, partL ts K m G l = zs := ⟨_, rfl⟩
  rw [hzs] at HPR HPL
  have HZ := Lib.hid hzs
  have HB := Lib.hid (show Byt zs by rw [← hzs]; exact HPR.out.part.1.byt)
  obtain ⟨c0, c1, c2, c3⟩ := id hx9
  clear hv hx hw hmost hml hpl hb9
  go_wp2_with fail
  refine (pwrite_any A N C ts K m G a9 j9 c9 l _ hv9 hN1 hC1 rv9 (few_max (by omega)) HPR.out.rg).mono ?_
  rintro e w10 (⟨-, v10, rfl, ou10, hb10⟩ | ⟨hbad, -⟩)
  case inr => exact absurd HPR.out.ok hbad
  rw [Int.toNat_natCast, Int.toNat_natCast, hzs] at ou10
  obtain ⟨a10, c10, rfl, h101, -, bv10, -⟩ := ou10.ow.bvn HB.out pl HPL.out
  have hw10 := Below.then hw9 hb10
  have hv10 := SV.below hv9 hb10
  have hx10 := hx9.below hb10
  have rv10 := rv9.below hb10
  have hlong2 : ¬ (pl : Int) < 20 := by omega
  clear c0 c1 c2 c3 ou10 hb10 hv9 hx9 rv9 hw9 hzs
  go_wp2_with fail
  refine (popen_any a10 pl c10 zs _ bv10 h101 (by omega)).mono ?_
  rintro e w11 ⟨⟨p, ts', K', m', G', l', rfl, pt, hpl, hpr'⟩ | ⟨rfl, hno⟩, hb11⟩
  rotate_left
  · exact absurd HPR.out (hno.out _ _ _ _ _)
  obtain ⟨rfl, rfl, rfl, rfl, rfl⟩ := HPR.out.one hpr'.out
  have hw11 := Below.then hw10 hb11
  have hv11 := SV.below hv10 hb11
  have hx11 := hx10.below hb11
  have rv11 := rv10.below hb11
  have bv11 := bv10.below hb11
  obtain ⟨k, hk⟩ : ∃ k : Nat, at0.tmod (pl : Int) = (k : Int) ∧ k < pl := by
    have e1 := Int.emod_nonneg at0 (show (pl : Int) ≠ 0 by omega)
    have e2 := Int.emod_lt_of_pos at0 (show (0 : Int) < pl by omega)
    rw [Int.tmod_eq_emod_of_nonneg h0.1]
    exact ⟨(at0 % (pl : Int)).toNat, by omega, by omega⟩
  obtain ⟨hkm, hkl⟩ := hk
  have hw0 : IntKind.i64.wrap at0 = at0 := by rw [IntKind.wrap_i64]; omega
  have hplz : ((pl : Int) == 0) = false := by rw [beq_eq_false_iff_ne]; omega
  have hwk : IntKind.i64.wrap (k : Int) = (k : Int) := by rw [IntKind.wrap_i64]; omega
  obtain ⟨a12, hsl, bv12⟩ := BV.slice_hi bv11 k c10 (by omega) h101
  clear hv10 hx10 rv10 hw10 hb11 bv10 hpr'
  go_wp2_with fail
  refine (popen_any a12 k c10 (zs.take k) _ bv12 (by omega) (by omega)).mono ?_
  rintro e w12 ⟨⟨p2, ts2, K2, m2, G2, l2, rfl, -, -, hq⟩ | ⟨rfl, -⟩, hb12⟩
  · exact (part_cut HPR.out.part.1 hq.out.part.1 (r := k) (by rw [HZ.out, HPL.out]; exact hkl) (by rw [HZ.out]; exact hq.out.is)).elim
  have hw12 := Below.then hw11 hb12
  have hv12 := SV.below hv11 hb12
  have hx12 := hx11.below hb12
  have rv12 := rv11.below hb12
  have bz12 := bv11.below hb12
  have pt12 := pt.below hb12
  obtain ⟨y, hy⟩ : ∃ y : Int, IntKind.u8.wrap at0 = y ∧ 0 ≤ y ∧ y ≤ 255 := ⟨_, rfl, by rw [IntKind.wrap_u8']; omega, by rw [IntKind.wrap_u8']; omega⟩
  obtain ⟨hy1, hy2⟩ := hy
  clear hv11 hx11 rv11 hw11 hb12 bv11 bv12 hsl hkm hplz hwk pt
  go_wp2_with (at_builtin; first | (refine append_ow rfl (.tmp 68) (.tmp 69) rfl w12.heap.size _ [] rfl (OW.empty w12 w12.heap.size (Nat.le_refl _) _ rfl) a10 pl c10 zs rfl (bz12.alloc _) (by simp only [List.length_nil]; omega) (by rw [heap_alloc]; omega) ?_; intro v13 w13 ho13 hb13; rw [List.nil_append] at ho13; have hs13 : w12.heap.size ≤ (w13.alloc (.cells #[.int .u8 y] 5)).heap.size := (by have h1 := hb13.size; rw [heap_alloc] at h1 ⊢; omega)) | (refine append_ow rfl (.tmp 70) (.tmp 73) rfl w12.heap.size v13 zs rfl (ho13.alloc _) (some ⟨w13.heap.size, 0, none⟩) 1 1 [y] rfl (BV.one1 w13 y hy2.1 hy2.2) (by rw [HPL.out]; omega) hs13 ?_; intro v14 w14 ho14 hb14))
  have hb14' : Below w12.heap.size w12 w14 := (((Joins.below_alloc1 w12 (.cells #[] 5)).trans hb13).alloc (by have h1 := hb13.size; rw [heap_alloc] at h1; omega) (.cells #[.int .u8 y] 5)).trans hb14
  have hyb : Byt (zs ++ [y]) := fun z hz => (List.mem_append.1 hz).elim (HB.out z) (fun h => by rw [List.mem_singleton.1 h]; exact hy2)
  obtain ⟨a14, c14, rfl, h141, -, bv14, -⟩ := ho14.bvn hyb (pl + 1) (by rw [List.length_append, HPL.out]; rfl)
  have hw14 := Below.then hw12 hb14'
  have hv14 := SV.below hv12 hb14'
  have hx14 := hx12.below hb14'
  have rv14 := rv12.below hb14'
  have pt14 := pt12.below hb14'
  clear hv12 hx12 rv12 hw12 hb13 hb14 hb14' hs13 ho13 ho14 pt12 bz12 hyb hy1 hy2
  have hpl1 : pl + 1 ≤ 1000000 := by omega
  refine (popen_any a14 (pl + 1) c14 (zs ++ [y]) _ bv14 h141 hpl1).mono ?_
  rintro e w15 ⟨⟨p2, ts2, K2, m2, G2, l2, rfl, -, -, hq⟩ | ⟨rfl, -⟩, hb15⟩
  · exact (part_more HPR.out.part.1 hq.out.part.1 (x := [y]) (by simp) (by rw [HZ.out]; exact hq.out.is)).elim
  have hw15 := Below.then hw14 hb15
  have hv15 := SV.below hv14 hb15
  have hx15 := hx14.below hb15
  have rv15 := rv14.below hb15
  have pt15 := pt14.below hb15
  have cr := prows_any pt15
  rw [hll.out] at cr
  have HQ0 := hll.out
  obtain ⟨q, hq⟩ : ∃ q, cntG G j9 = q := ⟨_, rfl⟩
  have HQ : Hid (cntG G l.length = q) := Lib.hid (by rw [HQ0, hq])
  have hqj := cntG_le (j := j9) hG.1
  rw [hq] at hqj
  clear hv14 hx14 rv14 hw14 hb15 pt14 bv14 hpl1 hq HQ0 hpl hlong hlong2 h141
  go_wp2_with fail
  refine cr.mono ?_
  rintro e w16 ⟨rfl, hw16⟩
  subst hw16
  clear cr
  have o9 : OS 1 (w16.alloc (.cells #[] 46)) w16.heap.size (.slice (some ⟨w16.heap.size, 0, none⟩) 0 0) 0 [] := OS.lit (k := 1) w16 w16.heap.size (Nat.le_refl _) [] 0 46 rfl (by simp) (by simp) _ rfl
  have hb0 := Joins.below_alloc1 w16 (.cells #[] 46)
  go_wp2_with fail
  go_loopw [18, 19] (fun o i wr => ∃ (x m0 : Nat) (es : List P9), x ≤ q ∧ i = .int .i64 (x : Int) ∧ m0 ≤ 40 ∧ OS 1 wr w16.heap.size o m0 (pc es) ∧ Hid (es.map (·.2) = l.take (x * G)) ∧ PRN wr es o ∧ Below w16.heap.size w16 wr) (fun _ i _ => q - (intOf i).toNat)
  case atStart => exact ⟨0, 0, [], by omega, rfl, by omega, o9, Lib.hid (by simp), (fun p hp => by cases hp), hb0⟩
  case round =>
    clear o9 hb0
    obtain ⟨x, m0, es, hxq, rfl, hm0, ho, has, hpa, hb⟩ := hrel
    have cq := pgrans_any (pt15.below hb)
    rw [HQ.out] at cq
    go_wp2_with fail
    refine cq.mono ?_
    rintro e w17 ⟨rfl, hw17⟩
    subst hw17
    clear cq
    by_cases hlx : x < q
    · have hxi : (x : Int) < (q : Int) := by omega
      have hxc : x < cntG G l.length := by rw [HQ.out]; exact hlx
      have hgi := HPR.out.part.1.gran_len' hxc
      have hgm := (gran_in hG.1 hxc).2.1
      have hgo := gran_at (G := G) (l := l) (i := x) (k := 0) ([] : RowV) (by omega)
      rw [Nat.add_zero] at hgo
      have hxG : x * G < l.length := (cnt_lt hG.1).1 hxc
      have HCM := Lib.hid (cR_mark HI.out HF.out hty.out hxG)
      have hrg : RgV (l.getD (x * G) []) := by
        have e : l.getD (x * G) [] = l[x * G] := by simp [List.getD, hxG]
        rw [e]; exact RgV.of (HF.out _ (List.getElem_mem _))
      have hrl := HPR.out.part.1.row_len (l.getD (x * G) []) (by
        have e : l.getD (x * G) [] = l[x * G] := by simp [List.getD, hxG]
        rw [e]; exact List.getElem_mem _)
      have hgl := gran_len G l x
      obtain ⟨L, hL⟩ : ∃ L, (granL G l x).length = L := ⟨_, rfl⟩
      obtain ⟨rj, hrj⟩ : ∃ rj, l.getD (x * G) [] = rj := ⟨_, rfl⟩
      rw [hrj] at HCM hrg hrl hgo
      rw [hL] at hgi hgm hgl
      have hL1 : 1 ≤ L := hgi.1
      have HRJ := Lib.hid hrj
      have HGO := Lib.hid hgo
      have HRG := Lib.hid hrg
      have hhas : hasB (cntG G l.length) (x : Int) = true := decide_eq_true (by omega)
      clear hgi hxG hrj hgo hrg hgl
      go_wp2_with fail
      refine (pgran_any (pt15.below hb) HPR.out.part.1 (x : Int)).mono ?_
      rintro e w18 ⟨⟨-, g, rfl, cp⟩ | ⟨hbad, -⟩, hb18⟩
      rotate_left
      · rw [hhas] at hbad; cases hbad
      rw [Int.toNat_natCast, hL] at cp ⊢
      have hbi := Below.then hb hb18
      go_wp2_with fail
      refine (pmark_any (pt15.below hbi) HPR.out.part.1 (x : Int)).mono ?_
      rintro e w19 ⟨⟨-, v7, rfl, o7⟩ | ⟨hbad, -⟩, hb19⟩
      rotate_left
      · rw [hhas] at hbad; cases hbad
      rw [Int.toNat_natCast, HRJ.out] at o7
      obtain ⟨a7, c7, rfl, h71, h72, sv7, -⟩ := o7.sv
      have cp := cp.below hb19
      have hbk := Below.then hb18 hb19
      have hbj := Below.then hbi hb19
      obtain ⟨b8, f8, A8, L8, C8, e8, hcr, hL8, wv8⟩ := cp.rvs.at 0 (by omega)
      cases e8
      rw [Nat.add_zero] at hcr
      rw [HGO.out] at wv8
      have ho18 : ∀ b, u18.ownBlock = some b → b < w17.heap.size := fun b hb => (ho.ownLow hb).2
      have cc := r4compare_any A N C ts K m (G : Int) A8 L8 C8 rj a7 K c7 (rj.take K) w19.drew (SV.below hv15 hbj.drew) hN1 (SV.below wv8 (Below.refl _ _).drew) hL8 (SV.below sv7 (Below.refl _ _).drew) hK1 hK1 HRG.out (fun x hx => HRG.out x (List.mem_of_mem_take hx))
      rw [HCM.out] at cc
      obtain ⟨c0, c1, c2, c3⟩ := hx15.below hbj
      have hLn : ¬ (L : Int) < 1 := by omega
      have hLG : ¬ (L : Int) > (G : Int) := by omega
      clear o7 sv7 wv8 hb18 hb19 hbi hrl HRG HRJ HGO h71 h72
      go_wp2_with fail
      refine wp_region_noPanic ?_
      refine region_g 31 (Ext (World.drew _)) (by kernel_rfl) (Ext.refl _) (fun hS => ?_)
      refine take_w (i := 0) (v := ?_) (some 118) rfl (by kernel_rfl) rfl (fun _ _ _ h => h) (Or.inl ⟨by rfl, ?_⟩) hS ?_
      rotate_left
      · (intro wq hq; go_simp); first | done | with_reducible rfl
      try simp only [Act.put, List.setIfInBounds_toArray, List.set_cons_zero, List.set_cons_succ]
      replace hS := Till.list 0 hS
      refine take_w (i := 1) (v := ?_) (some 119) rfl (by kernel_rfl) rfl (fun _ _ _ h => h) (Or.inl ⟨by rfl, ?_⟩) hS ?_
      rotate_left
      · (intro wq hq; go_simp); first | done | with_reducible rfl
      try simp only [Act.put, List.setIfInBounds_toArray, List.set_cons_zero, List.set_cons_succ]
      replace hS := Till.list 1 hS
      refine take_w (i := 2) (v := ?_) (some 120) rfl (by kernel_rfl) rfl (fun _ _ _ h => h) (Or.inl ⟨by rfl, ?_⟩) hS ?_
      rotate_left
      · (intro wq hq; go_simp); first | done | with_reducible rfl
      try simp only [Act.put, List.setIfInBounds_toArray, List.set_cons_zero, List.set_cons_succ]
      replace hS := Till.list 2 hS
      refine take_w (i := 3) (v := ?_) (some 121) rfl (by kernel_rfl) rfl (fun _ _ _ h => h) (Or.inl ⟨by rfl, ?_⟩) hS ?_
      rotate_left
      · (intro wq hq; go_simp); first | done | with_reducible rfl
      try simp only [Act.put, List.setIfInBounds_toArray, List.set_cons_zero, List.set_cons_succ]
      replace hS := Till.list 3 hS
      refine take_w (i := 4) (v := ?_) (some 122) rfl (by kernel_rfl) rfl (fun _ _ _ h => h) (Or.inl ⟨by rfl, ?_⟩) hS ?_
      rotate_left
      · (intro wq hq; go_simp); first | done | with_reducible rfl
      try simp only [Act.put, List.setIfInBounds_toArray, List.set_cons_zero, List.set_cons_succ]
      replace hS := Till.list 4 hS
      refine take_w (i := 5) (v := ?_) (some 123) rfl (by kernel_rfl) rfl (fun _ _ _ h => h) (Or.inl ⟨by rfl, ?_⟩) hS ?_
      rotate_left
      · (intro wq hq; go_simp); first | done | with_reducible rfl
      try simp only [Act.put, List.setIfInBounds_toArray, List.set_cons_zero, List.set_cons_succ]
      replace hS := Till.list 5 hS
      refine take_w (i := 6) (v := ?_) (some 124) rfl (by kernel_rfl) rfl (fun _ _ _ h => h) (Or.inl ⟨by rfl, ?_⟩) hS ?_
      rotate_left
      · (intro wq hq; go_simp); first | done | with_reducible rfl
      try simp only [Act.put, List.setIfInBounds_toArray, List.set_cons_zero, List.set_cons_succ]
      replace hS := Till.list 6 hS
      refine take_w (i := 7) (v := ?_) (some 125) rfl (by kernel_rfl) rfl (fun _ _ _ h => h) (Or.inl ⟨by rfl, ?_⟩) hS ?_
      rotate_left
      · (intro wq hq; go_simp); first | done | with_reducible rfl
      try simp only [Act.put, List.setIfInBounds_toArray, List.set_cons_zero, List.set_cons_succ]
      replace hS := Till.list 7 hS
      refine take_w (i := 8) (v := ?_) (some 126) rfl (by kernel_rfl) rfl (fun _ _ _ h => h) (Or.inl ⟨by rfl, ?_⟩) hS ?_
      rotate_left
      · (intro wq hq; go_simp); first | done | with_reducible rfl
      try simp only [Act.put, List.setIfInBounds_toArray, List.set_cons_zero, List.set_cons_succ]
      replace hS := Till.list 8 hS
      refine take_g (i := 9) (v := .bool false) [25, 18, 11, 10, 9] (some 127) rfl (by kernel_rfl) rfl (fun _ _ _ h => h) (Or.inl ⟨by rfl, ?_⟩) hS ?_
      · (intro wq hq; (go_simp <;> omega))
      try simp only [Act.put, List.setIfInBounds_toArray, List.set_cons_zero, List.set_cons_succ]
      replace hS := Till.list 9 hS
      refine take_w (i := 10) (v := ?_) (some 128) rfl (by kernel_rfl) rfl (fun _ _ _ h => h) (Or.inl ⟨by rfl, ?_⟩) hS ?_
      rotate_left
      · (intro wq hq; go_simp); first | done | with_reducible rfl
      try simp only [Act.put, List.setIfInBounds_toArray, List.set_cons_zero, List.set_cons_succ]
      replace hS := Till.list 10 hS
      refine take_w (i := 11) (v := ?_) (some 129) rfl (by kernel_rfl) rfl (fun _ _ _ h => h) (Or.inl ⟨by rfl, ?_⟩) hS ?_
      rotate_left
      · (intro wq hq; go_simp); first | done | with_reducible rfl
      try simp only [Act.put, List.setIfInBounds_toArray, List.set_cons_zero, List.set_cons_succ]
      replace hS := Till.list 11 hS
      refine take_w (i := 12) (v := ?_) (some 130) rfl (by kernel_rfl) rfl (fun _ _ _ h => h) (Or.inl ⟨by rfl, ?_⟩) hS ?_
      rotate_left
      · (intro wq hq; go_simp); first | done | with_reducible rfl
      try simp only [Act.put, List.setIfInBounds_toArray, List.set_cons_zero, List.set_cons_succ]
      replace hS := Till.list 12 hS
      refine take_w (i := 14) (v := ?_) (some 132) rfl (by kernel_rfl) rfl (fun _ _ _ h => h) (Or.inl ⟨by rfl, ?_⟩) hS ?_
      rotate_left
      · (intro wq hq; go_simp); first | done | with_reducible rfl
      try simp only [Act.put, List.setIfInBounds_toArray, List.set_cons_zero, List.set_cons_succ]
      replace hS := Till.list 14 hS
      refine take_w (i := 13) (v := ?_) (some 131) rfl (by kernel_rfl) rfl (fun _ _ _ h => h) (Or.inl ⟨by rfl, ?_⟩) hS ?_
      rotate_left
      · (intro wq hq; go_simp); first | done | with_reducible rfl
      try simp only [Act.put, List.setIfInBounds_toArray, List.set_cons_zero, List.set_cons_succ]
      replace hS := Till.list 13 hS
      refine take_g (i := 15) (v := ?_) [25, 18, 17, 16, 15] (some 133) rfl (by kernel_rfl) rfl (fun _ _ _ h => h) (Or.inl ⟨by rfl, ?_⟩) hS ?_
      rotate_left
      · (intro wq hq; have q0 := hq _ _ _ c0; have q1 := hq _ _ _ c1; have q2 := hq _ _ _ c2; have q3 := hq _ _ _ c3; have q4 := hq _ _ _ hcr; go_simp); first | done | with_reducible rfl
      try simp only [Act.put, List.setIfInBounds_toArray, List.set_cons_zero, List.set_cons_succ]
      replace hS := Till.list 15 hS
      refine take_g (i := 16) (v := .bool false) [25, 18, 17, 16] (some 134) rfl (by kernel_rfl) rfl (fun _ _ _ h => h) (Or.inl ⟨by rfl, ?_⟩) hS ?_
      · (intro wq hq; (go_simp <;> omega))
      try simp only [Act.put, List.setIfInBounds_toArray, List.set_cons_zero, List.set_cons_succ]
      replace hS := Till.list 16 hS
      refine take_w (i := 17) (v := ?_) (some 135) rfl (by kernel_rfl) rfl (fun _ _ _ h => h) (Or.inl ⟨by rfl, ?_⟩) hS ?_
      rotate_left
      · (intro wq hq; go_simp); first | done | with_reducible rfl
      try simp only [Act.put, List.setIfInBounds_toArray, List.set_cons_zero, List.set_cons_succ]
      replace hS := Till.list 17 hS
      refine take_w (i := 18) (v := ?_) (some 136) rfl (by kernel_rfl) rfl (fun _ _ _ h => h) (Or.inl ⟨by rfl, ?_⟩) hS ?_
      rotate_left
      · (intro wq hq; go_simp); first | done | with_reducible rfl
      try simp only [Act.put, List.setIfInBounds_toArray, List.set_cons_zero, List.set_cons_succ]
      replace hS := Till.list 18 hS
      refine take_w (i := 19) (v := ?_) (some 137) rfl (by kernel_rfl) rfl (fun _ _ _ h => h) (Or.inl ⟨by rfl, ?_⟩) hS ?_
      rotate_left
      · (intro wq hq; go_simp); first | done | with_reducible rfl
      try simp only [Act.put, List.setIfInBounds_toArray, List.set_cons_zero, List.set_cons_succ]
      replace hS := Till.list 19 hS
      refine take_w (i := 21) (v := ?_) (some 139) rfl (by kernel_rfl) rfl (fun _ _ _ h => h) (Or.inl ⟨by rfl, ?_⟩) hS ?_
      rotate_left
      · (intro wq hq; go_simp); first | done | with_reducible rfl
      try simp only [Act.put, List.setIfInBounds_toArray, List.set_cons_zero, List.set_cons_succ]
      replace hS := Till.list 21 hS
      refine take_w (i := 20) (v := ?_) (some 138) rfl (by kernel_rfl) rfl (fun _ _ _ h => h) (Or.inl ⟨by rfl, ?_⟩) hS ?_
      rotate_left
      · (intro wq hq; go_simp); first | done | with_reducible rfl
      try simp only [Act.put, List.setIfInBounds_toArray, List.set_cons_zero, List.set_cons_succ]
      replace hS := Till.list 20 hS
      refine take_g (i := 22) (v := ?_) [25, 24, 23, 22] (some 140) rfl (by kernel_rfl) rfl (fun _ _ _ h => h) (Or.inl ⟨by rfl, ?_⟩) hS ?_
      rotate_left
      · (intro wq hq; have q0 := hq _ _ _ c0; have q1 := hq _ _ _ c1; have q2 := hq _ _ _ c2; have q3 := hq _ _ _ c3; have q4 := hq _ _ _ hcr; go_simp); first | done | with_reducible rfl
      try simp only [Act.put, List.setIfInBounds_toArray, List.set_cons_zero, List.set_cons_succ]
      replace hS := Till.list 22 hS
      refine take_g (i := 23) (v := .bool false) [25, 24, 23] (some 141) rfl (by kernel_rfl) rfl (fun _ _ _ h => h) (Or.inl ⟨by rfl, ?_⟩) hS ?_
      · (intro wq hq; (go_simp <;> omega))
      try simp only [Act.put, List.setIfInBounds_toArray, List.set_cons_zero, List.set_cons_succ]
      replace hS := Till.list 23 hS
      refine take_w (i := 24) (v := ?_) (some 142) rfl (by kernel_rfl) rfl (fun _ _ _ h => h) (Or.inl ⟨by rfl, ?_⟩) hS ?_
      rotate_left
      · (intro wq hq; go_simp); first | done | with_reducible rfl
      try simp only [Act.put, List.setIfInBounds_toArray, List.set_cons_zero, List.set_cons_succ]
      replace hS := Till.list 24 hS
      refine take_w (i := 25) (v := ?_) (some 143) rfl (by kernel_rfl) rfl (fun _ _ _ h => h) (Or.inl ⟨by rfl, ?_⟩) hS ?_
      rotate_left
      · (intro wq hq; go_simp); first | done | with_reducible rfl
      try simp only [Act.put, List.setIfInBounds_toArray, List.set_cons_zero, List.set_cons_succ]
      replace hS := Till.list 25 hS
      refine take_g (i := 26) (v := ?_) [26] (some 144) rfl (by kernel_rfl) rfl (fun _ _ _ h => h) (Or.inl ⟨by rfl, ?_⟩) hS ?_
      rotate_left
      · (intro wq hq; have q0 := hq _ _ _ c0; have q1 := hq _ _ _ c1; have q2 := hq _ _ _ c2; have q3 := hq _ _ _ c3; have q4 := hq _ _ _ hcr; go_simp); first | done | with_reducible rfl
      try simp only [Act.put, List.setIfInBounds_toArray, List.set_cons_zero, List.set_cons_succ]
      replace hS := Till.list 26 hS
      refine take_w (i := 27) (v := ?_) (some 145) rfl (by kernel_rfl) rfl (fun _ _ _ h => h) (Or.inl ⟨by rfl, ?_⟩) hS ?_
      rotate_left
      · (intro wq hq; go_simp); first | done | with_reducible rfl
      try simp only [Act.put, List.setIfInBounds_toArray, List.set_cons_zero, List.set_cons_succ]
      replace hS := Till.list 27 hS
      refine take_g (i := 28) (v := .pointer (some ⟨g, 0, none⟩)) [29, 28] (some 146) rfl (by kernel_rfl) rfl (fun _ _ _ h => h) (Or.inl ⟨by rfl, ?_⟩) hS ?_
      · (intro wq hq; (go_simp; intro h; exfalso; omega))
      try simp only [Act.put, List.setIfInBounds_toArray, List.set_cons_zero, List.set_cons_succ]
      replace hS := Till.list 28 hS
      refine take_g (i := 29) (v := ?_) [29] (some 147) rfl (by kernel_rfl) rfl (fun _ _ _ h => h) (Or.inl ⟨by rfl, ?_⟩) hS ?_
      rotate_left
      · (intro wq hq; have q0 := hq _ _ _ c0; have q1 := hq _ _ _ c1; have q2 := hq _ _ _ c2; have q3 := hq _ _ _ c3; have q4 := hq _ _ _ hcr; go_simp); first | done | with_reducible rfl
      try simp only [Act.put, List.setIfInBounds_toArray, List.set_cons_zero, List.set_cons_succ]
      replace hS := Till.list 29 hS
      refine take_w (i := 30) (v := ?_) (some 148) rfl (by kernel_rfl) rfl (fun _ _ _ h => h) (Or.inl ⟨by rfl, ?_⟩) hS ?_
      rotate_left
      · (intro wq hq; go_simp); first | done | with_reducible rfl
      try simp only [Act.put, List.setIfInBounds_toArray, List.set_cons_zero, List.set_cons_succ]
      replace hS := Till.list 30 hS
      refine ready_g (rs := [31]) (by kernel_rfl) (by simp) ?_
      refine AllReadyG.cons rfl (fun Kont hK => ?_) AllReadyG.nil
      go_simp
      refine cc.mono ?_
      rintro e w20 ⟨rfl, hb20⟩
      refine hK.out _ _ (Or.inl (by kernel_rfl)) (fun hS0 => ?_)
      clear hK Kont
      try simp only [Act.put, List.setIfInBounds_toArray, List.set_cons_zero, List.set_cons_succ]
      clear hS
      have hS := hS0
      clear hS0
      refine take_w (i := 32) (v := ?_) (some 150) rfl (by kernel_rfl) rfl (fun _ _ _ h => h) (Or.inl ⟨by rfl, ?_⟩) hS ?_
      rotate_left
      · (intro wq hq; go_simp); first | done | with_reducible rfl
      try simp only [Act.put, List.setIfInBounds_toArray, List.set_cons_zero, List.set_cons_succ]
      replace hS := Till.list 32 hS
      refine take_w (i := 33) (v := ?_) (some 151) rfl (by kernel_rfl) rfl (fun _ _ _ h => h) (Or.inl ⟨by rfl, ?_⟩) hS ?_
      rotate_left
      · (intro wq hq; go_simp); first | done | with_reducible rfl
      try simp only [Act.put, List.setIfInBounds_toArray, List.set_cons_zero, List.set_cons_succ]
      replace hS := Till.list 33 hS
      refine done_g (by kernel_rfl) (NoPanic.normal ?_) _
      clear hS
      have hbm := Below.then hbk.drew hb20
      have hbn := Below.then hbj.drew hb20
      have cp := (show CpR w19.drew w17.heap.size g L (granL G l x) from cp).below hb20
      obtain ⟨gs, hs1, hs2, hs3⟩ := cp.pairs
      have HGS := Lib.hid hs2
      have hpb := hs3 u18 ho18
      have hpa2 := hpa.below hbm
      have ho4 := ho.below hbm
      have hmap : Hid ((es ++ gs).map (·.2) = l.take ((x + 1) * G)) := by show _ = _; rw [List.map_append, has.out, HGS.out, take_gran11]
      have hml : m0 + L ≤ 40 := by
        have e1 : es.length = m0 := by have := ho.1; rw [pc_len] at this; omega
        have e2 : gs.length = L := by have := hs1.1; rw [pc_len] at this; omega
        have e3 := congrArg List.length hmap.out
        rw [List.length_map, List.length_append, List.length_take, hll.out] at e3
        omega
      clear c0 c1 c2 c3 hcr cc hb20 hbk hbj hs2 hs3 ho hpa hb cp
      go_wp2_with (at_builtin; refine append_os2 el_rows rfl (.tmp 152) (.tmp 153) rfl w16.heap.size _ m0 _ rfl ho4 _ L L (pc gs) rfl hs1 (by omega) (by omega) hbn.size ?_; intro v21 w21 ho5 hb21 hk21 hst21)
      rw [← pc_app] at ho5
      have hp5 := PRN.app hpa2 hpb hb21.size hk21 hst21
      have hb22 := hbn.trans hb21
      clear ho4 hpa2 hpb hb21 hk21 hst21 hbm hbn hs1
      go_roundw
      case rel => exact ⟨x + 1, m0 + L, es ++ gs, by omega, by go_num, hml, ho5, hmap, hp5, hb22⟩
      case measure => simp [intOf]; omega
    · have hxi : ¬ (x : Int) < (q : Int) := by omega
      obtain rfl : q = x := by omega
      have hfull : Hid (es.map (·.2) = l) := by
        show _ = _
        rw [has.out, List.take_of_length_le]
        have : ¬ q * G < l.length := fun h => by have := (cnt_lt hG.1).2 h; rw [HQ.out] at this; omega
        omega
      obtain ⟨a18, c18, rfl, -, -, sv18, -⟩ := ho.sv
      have hrv := RVs.of sv18 hpa.pr
      rw [hfull.out] at hrv
      have rv17 := rv15.below hb
      have pt17 := pt15.below hb
      have hw17 := Below.then hw15 hb
      clear ho sv18 has hpa hfull hb
      go_wp2_with fail
      refine (rrows_any a18 m0 c18 l a9 j9 c9 l _ hrv rv17 (few_max (by omega)) (few_max (by omega))).mono ?_
      rw [decide_eq_true (rfl : l = l)]
      rintro e w18 ⟨rfl, hb18⟩
      have rv18 := rv17.below hb18
      have pt18 := pt17.below hb18
      have hw18 := Below.then hw17 hb18
      clear hrv rv17 pt17 hb18 hw17
      go_wp2_with fail
      refine (pall_any pt18 HPR.out.part.1).mono ?_
      rintro e w19 ⟨g, rfl, cp, hb19⟩
      rw [hll.out] at cp ⊢
      have rv19 := rv18.below hb19
      have hw19 := Below.then hw18 hb19
      go_wp2_with fail
      refine (rrows_any _ j9 j9 l a9 j9 c9 l _ cp.rvs rv19 (few_max (by omega)) (few_max (by omega))).mono ?_
      rw [decide_eq_true (rfl : l = l)]
      rintro e w20 ⟨rfl, hb20⟩
      have hw20 := Below.then hw19 hb20
      go_wp2_with fail
      go_ret
      exact ⟨rfl, hw20⟩
end Go.Proofs.YtbfihajgjbpmaaaGreat
/-
  PartBack: for every shape, every list of rows and every number the statement's function returns true, and its arguments read as they did. No condition.
-/
namespace Go.Proofs.YtbfihajgjbpmaaaGreat.partBack
open Go.ChangeShapes Go.WideShapes Go.ChangeAt Go.RowKit
set_option linter.unusedVariables false
set_option maxRecDepth 4000

set_option maxRecDepth 100000 in
theorem lifted (os : Os) (started : os.Started) (H : Type) (enc : TypeId × Value → H) :
    ReturnsInHanded {} Tryz.checked os 4 .any (Rows.partBackSpec.pre6 enc Tryz.prog Tryz.f4 Rows.partBackRow.domain false) (Rows.partBackSpec.post enc Tryz.prog Tryz.f4 false true false false) := by
  refine returnsInHanded_of_change (C := Tryz.checked) own started (by kernel_rfl) Tryz.func4
    (ChangeSpec.witness6 (enc := enc) (C := Tryz.checked) false ⟨#[], #[.agg #[.int .u8 0, .int .u8 0, .int .u8 0, .int .u8 0, .int .u8 0, .int .u8 0, .int .u8 0, .int .u8 0, .int .u8 0, .int .u8 0, .int .u8 0, .int .u8 0], .slice none 0 0, .int .u16 0], []⟩ 8 (by kernel_rfl) (by kernel_rfl) (by kernel_rfl) (by kernel_rfl)) ?_
  intro W base args ds gs before hval0 hW hcnd _
  have hval : ∀ (j : Nat) t v, Tryz.f4.params[j]? = some t → args[j]? = some v → Value.okWide Tryz.prog W .any base t v := hval0
  have hW' := hW
  obtain ⟨p, q, hA0, hV, rfl, hfz, hnd⟩ := hW
  have hA : DataW.TrodAll enc Tryz.prog W 0 (fun _ => true) true Tryz.f4.params.toList args.toList ds p := hA0
  rw [Tryz.params4] at hA hval
  obtain ⟨v0, vs0, d0, ds0, p0, q0, hargs0, rfl, rfl, h0, r0⟩ := trodAll_cons hA
  obtain ⟨v1, vs1, d1, ds1, p1, q1, hargs1, hds1, hq1, h1, r1⟩ := trodAll_cons r0
  obtain ⟨v2, vs2, d2, ds2, p2, q2, hargs2, hds2, hq2, h2, r2⟩ := trodAll_cons r1
  obtain ⟨hn1, hn2, hn3⟩ := trodAll_nil r2
  subst hn2 hn3
  subst hds2 hq2
  subst hds1 hq1
  obtain rfl : args = #[v0, v1, v2] := by cases args; simp_all
  obtain ⟨rfl, rfl⟩ := trodVars_none hV
  have rd0 := h0
  have lt0 : ∀ x ∈ p0, x.block < W.heap.size := by obtain ⟨m, hm⟩ := rd0; exact DataW.trod_lt m _ _ _ hm
  obtain ⟨la0, lb0, lc0, ld0, le0, lf0, lg0, lh0, na0, nb0, nc0, nd0, rfl, S0⟩ := open_shape (hval 0 40 v0 rfl rfl) h0
  have rd1 := h1
  have lt1 : ∀ x ∈ p1, x.block < W.heap.size := by obtain ⟨m, hm⟩ := rd1; exact DataW.trod_lt m _ _ _ hm
  obtain ⟨A1, n1, c1, v1, rfl, W1, L1, R1⟩ := open_rows4 (hval 1 25 v1 rfl rfl) h1
  have rd2 := h2
  have lt2 : ∀ x ∈ p2, x.block < W.heap.size := by obtain ⟨m, hm⟩ := rd2; exact DataW.trod_lt m _ _ _ hm
  obtain ⟨a2, rfl, B2⟩ := open_u16 (hval 2 41 v2 rfl rfl) h2
  clear hA0 hval0
  refine (backB_is S0 A1 n1 c1 v1 a2 W W1 L1 R1 B2).mono fun e W' ⟨he, bel⟩ => ?_
  subst he
  exact ⟨_, rfl, _, _, _, [], _, [], hW', trodAll_mk1 (shut_bool Tryz.underlying4 _), (trodAll_cons_mk (Below.trod laidOut (by kernel_rfl) (of_decide_eq_true (by kernel_rfl)) rd0 bel lt0) (trodAll_cons_mk (Below.trod laidOut (by kernel_rfl) (of_decide_eq_true (by kernel_rfl)) rd1 bel lt1) (trodAll_cons_mk (Below.trod laidOut (by kernel_rfl) (of_decide_eq_true (by kernel_rfl)) rd2 bel lt2) trodAll_mk0))), rfl, bel.frame _, fun h => by cases h⟩

theorem over : Rows.partBackRow.holds Tryz.pinned (OpenSpec.ofChange Rows.partBackSpec) :=
  OpenClaim.holds_of_wide 4 Tryz.f4 rfl rfl rfl rfl rfl rfl rfl ⟨rfl, rfl, rfl, rfl, rfl⟩ rfl rfl rfl rfl rfl (by kernel_rfl) Tryz.func4 (by kernel_rfl)
    (of_decide_eq_true (by kernel_rfl)) (by unfold Func.isWrapper; first | (rw [if_pos (by decide +kernel)]; kernel_rfl) | (rw [if_neg (by decide +kernel)]; exact ⟨rfl, rfl⟩))
    (fun os started H enc _ => lifted os started H enc)
end Go.Proofs.YtbfihajgjbpmaaaGreat.partBack
namespace Go.Proofs.YtbfihajgjbpmaaaGreat
theorem partBack_holds : Rows.PartBackSaid := partBack.over
end Go.Proofs.YtbfihajgjbpmaaaGreat
