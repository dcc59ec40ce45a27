/-
  PartOwn: for every shape and every list of rows the statement's function returns true, and its arguments read as they did. No condition.
-/
import Derived.Test.YtbfihajgjbpmaaaGreatPrtE
import Derived.Test.YtbfihajgjbpmaaaGreatSchD
import Derived.Test.YtbfihajgjbpmaaaGreatRows
import Derived.WalkKit
import Derived.ProofKit
import Derived.OpenShut
import Derived.ShutString
import Derived.ChangeOld
import Derived.Below
import Derived.Test.YtbfihajgjbpmaaaGreatSchC
/- PartOwn: the walk. -/
namespace Go.Proofs.YtbfihajgjbpmaaaGreat
open Go.ChangeShapes Go.WideShapes Go.ChangeAt Go.RowKit
set_option linter.unusedVariables false
set_option maxRecDepth 4000

theorem PtM.kp {w w' : World} {p : Nat} {ts : List Int} {K : Nat} {m : Int} {G : Nat} {l : List RowV} {H : Nat → Prop} (h : PtM w p ts K m G l) (hu : ∀ b, H b → U8K w b) (hk : Kp H w w') : PtM w' p ts K m G l := by
  obtain ⟨A, N, C, R, n, c, A', q, C', h1, h2, h3, h4, h5, h6, h7⟩ := h
  exact ⟨A, N, C, R, n, c, A', q, C', h1.kp ⟨.slice A N C, by simp, fun z h => by cases h⟩ hu hk, IV.kp h2 hu hk, h3, h4.kp hu hk, h5, h6.kp (sliceRep_nu [] rowRep_nu) hu hk, h7⟩
/-- n elements of k cells, of the call's own, whatever they hold -/
def Sq (k : Nat) (w : World) (M : Nat) (v : Value) (n : Nat) : Prop := ∃ cs, OS k w M v n cs
theorem Sq.below {k : Nat} {w w' : World} {M : Nat} {v : Value} {n : Nat} (h : Sq k w M v n) (hb : Below w.heap.size w w') : Sq k w' M v n := by
  obtain ⟨cs, h⟩ := h; exact ⟨cs, h.below hb⟩
theorem Sq.set {k : Nat} {w : World} {M : Nat} {v : Value} {n b i : Nat} {u : Value} (h : Sq k w M v n) (hu : u.oneCell' = true) : Sq k (w.setCell ⟨b, i, none⟩ u) M v n := by
  obtain ⟨cs, h1, h2, h3⟩ := h
  rcases h3 with ⟨rfl, rfl⟩ | ⟨g, cap, cur, T, rfl, hg, hh, hl, hm, hsz, ht⟩
  · exact ⟨[], by simp, by simp, .inl ⟨rfl, rfl⟩⟩
  · have hB : Bk w g cur T := hh
    by_cases e : g = b
    · subst e
      refine ⟨cs.set i u, by rw [List.length_set]; exact h1, ?_, .inr ⟨g, cap, cur.setIfInBounds i u, T, rfl, hg, hB.set i u, hl, hm, by simpa using hsz, by rw [Array.toList_setIfInBounds, List.take_set, ht]⟩⟩
      intro x hx
      rcases List.mem_or_eq_of_mem_set hx with hx | rfl
      · exact h2 x hx
      · exact hu
    · exact ⟨cs, h1, h2, .inr ⟨g, cap, cur, T, rfl, hg, hB.other e u, hl, hm, hsz, ht⟩⟩
theorem Sq.own {k : Nat} {w : World} {M : Nat} {v : Value} {n : Nat} (h : Sq k w M v n) (hn : 1 ≤ n) :
    ∃ g cap, v = .slice (some ⟨g, 0, none⟩) n cap ∧ M ≤ g ∧ (∀ i, i < n * k → ∃ u, w.cell? ⟨g, i, none⟩ = some u) ∧ ∀ i, w.frozen? ⟨g, i, none⟩ = false := by
  obtain ⟨cs, h⟩ := h
  obtain ⟨g, cap, h1, h2, -, -, h3, h4, -⟩ := h.own hn
  refine ⟨g, cap, h1, h2, fun i hi => ?_, h4⟩
  have hl := h.1
  exact ⟨_, h3 i _ (List.getElem?_eq_getElem (show i < cs.length by omega))⟩
/-- rows of the call's own, whatever they hold: their headers stay -/
structure RowsW (w : World) (M U gb n : Nat) (ps : List P9) : Prop where
  len : ps.length = n
  bk : Bk w gb (pcF ps n) 46
  low : M ≤ gb
  row : ∀ p ∈ ps, Sq 2 w M (sV p.1) p.1.2.1
  short : ∀ p ∈ ps, p.1.2.1 ≤ 1000
  off : ∀ p ∈ ps, ∀ x, p.1.1 = some x → 1 ≤ p.1.2.1 → x.block ≠ gb ∧ x.block < U
theorem RowsW.below {w w' : World} {M U gb n : Nat} {ps : List P9} (h : RowsW w M U gb n ps) (hb : Below w.heap.size w w') : RowsW w' M U gb n ps :=
  ⟨h.len, h.bk.below hb, h.low, fun p hp => (h.row p hp).below hb, h.short, h.off⟩
theorem RowsW.alloc {w : World} {M U gb n : Nat} {ps : List P9} (h : RowsW w M U gb n ps) (o : Obj) : RowsW (w.alloc o) M U gb n ps := h.below (Joins.below_alloc1 w o)
theorem OS.iv {w : World} {base : Nat} {a : Option Addr} {n c : Nat} {ts : List Int} (h : OS 1 w base (.slice a n c) n (icells ts)) : IV w a n ts := by
  obtain ⟨a', c', e, -, -, h3, -⟩ := h.sv
  cases e; exact h3
theorem RowsW.set {w : World} {M U gb n : Nat} {ps : List P9} (h : RowsW w M U gb n ps) {g i : Nat} {u : Value} (hg : g ≠ gb) (hu : u.oneCell' = true) : RowsW (w.setCell ⟨g, i, none⟩ u) M U gb n ps :=
  ⟨h.len, h.bk.other (fun e => hg e.symm) u, h.low, fun p hp => (h.row p hp).set hu, h.short, h.off⟩
theorem vcells_head (v : Int × ByteArray) (vs : RowV) : vcells (v :: vs) = .int .i64 v.1 :: .string v.2 :: vcells vs := rfl
theorem CpR.rowsW {w : World} {M gb n : Nat} {l : List RowV} (h : CpR w M gb n l) (hs : ∀ r ∈ l, r.length ≤ 1000) : ∃ ps : List P9, (ps.map (·.2) = l ∧ ∀ p ∈ ps, p.1.2.1 = p.2.length) ∧ RowsW w M w.heap.size gb n ps := by
  obtain ⟨ps, h1, h2, h3, h4, h5⟩ := h
  refine ⟨ps, ⟨h2, fun p hp => ?_⟩, h1, h3, h4, fun p hp => ⟨_, h5 p hp⟩, fun p hp => ?_, fun p hp x hx hn => ?_⟩
  · have q := (h5 p hp).1
    rw [vcells_len] at q
    omega
  · have q := (h5 p hp).1
    rw [vcells_len] at q
    have := hs p.2 (by rw [← h2]; exact List.mem_map.2 ⟨p, hp, rfl⟩)
    omega
  obtain ⟨q1, q2, q3⟩ := h5 p hp
  rcases q3 with ⟨q3, q4⟩ | ⟨g, cap, cur, T, q3, hg, hh, hl, hm, hsz, ht⟩
  · omega
  · have e1 : p.1.1 = some ⟨g, 0, none⟩ := (Value.slice.inj q3).1
    rw [hx] at e1
    have e2 : x.block = g := by rw [Option.some.inj e1]
    refine ⟨fun e => ?_, by rw [e2]; exact lt_of_block hh⟩
    rw [e2] at e
    subst e
    have e3 : w.heap[g]? = some (.cells (pcF ps n) 46 (0, 0)) := h3
    rw [e3] at hh
    have e4 := Option.some.inj hh
    have e5 : pcF ps n = cur := by injection e4
    rw [← e5] at ht
    obtain ⟨v, vs, hv⟩ : ∃ v vs, p.2 = v :: vs := by
      cases hp2 : p.2 with
      | nil => rw [hp2] at q1; have : (0 : Nat) = p.1.2.1 * 2 := q1; omega
      | cons v vs => exact ⟨v, vs, rfl⟩
    rw [hv, vcells_head] at ht
    have e6 := congrArg (fun z : List Value => z[0]?) ht
    rw [List.getElem?_take_of_lt (by omega), List.getElem?_cons_zero] at e6
    have e7 : (pcF ps n).toList[0]? = some (sV (ps.getD 0 p9).1) := by
      have h0 : 0 < ps.length := List.length_pos_of_mem hp
      have := pc_at h0
      unfold pcF
      rw [List.toList_toArray, List.getElem?_append_left (by rw [pc_len]; exact h0)]
      exact this
    rw [e7] at e6
    cases Option.some.inj e6
/-- one of the rows: its header, its cells -/
theorem RowsW.at {w : World} {M U gb n : Nat} {ps : List P9} (h : RowsW w M U gb n ps) (i : Nat) (hi : i < n) :
    ∃ A L C, w.cell? ⟨gb, i, none⟩ = some (.slice A L C) ∧ L ≤ 1000 ∧ L = (ps.getD i p9).1.2.1 ∧ ∀ w', RowsW w' M U gb n ps → w'.cell? ⟨gb, i, none⟩ = some (.slice A L C) ∧ (1 ≤ L → ∃ g, A = some ⟨g, 0, none⟩ ∧ g ≠ gb ∧ g < U ∧ M ≤ g ∧ (∀ j, j < L * 2 → ∃ u, w'.cell? ⟨g, j, none⟩ = some u) ∧ ∀ j, w'.frozen? ⟨g, j, none⟩ = false) := by
  have hi' : i < ps.length := by rw [h.len]; exact hi
  have hmem : ps.getD i p9 ∈ ps := by
    have e : ps.getD i p9 = ps[i] := by simp [List.getD, hi']
    rw [e]; exact List.getElem_mem _
  have hcell : ∀ w', RowsW w' M U gb n ps → w'.cell? ⟨gb, i, none⟩ = some (sV (ps.getD i p9).1) := fun w' h' => h'.bk.cell i (by
    unfold pcF
    rw [List.getElem?_toArray, List.getElem?_append_left (by rw [pc_len]; exact hi')]
    exact pc_at hi')
  refine ⟨(ps.getD i p9).1.1, (ps.getD i p9).1.2.1, (ps.getD i p9).1.2.2, hcell w h, h.short _ hmem, rfl, fun w' h' => ⟨hcell w' h', fun hL => ?_⟩⟩
  obtain ⟨g, cap, e1, e2, e3, e4⟩ := (h'.row _ hmem).own hL
  have e5 : (ps.getD i p9).1.1 = some ⟨g, 0, none⟩ := (Value.slice.inj e1).1
  exact ⟨g, e5, (h'.off _ hmem _ e5 hL).1, (h'.off _ hmem _ e5 hL).2, e2, e3, e4⟩
set_option maxHeartbeats 16000000 in
theorem ownB_is {l0 l1 l2 l3 l4 l5 l6 l7 n keys mode grain : Int} (h : ShW l0 l1 l2 l3 l4 l5 l6 l7 n keys mode grain) (R : Option Addr) (nr cr : Nat) (vss : List RowV) (w : World)
    (hr : RVs w R nr vss) (hnr : nr ≤ maxLen) (hg : ∀ v ∈ vss, RgV v) :
    Calls Tryz.prog 7 #[ShV l0 l1 l2 l3 l4 l5 l6 l7 n keys mode grain, .slice R nr cr] w fun e w' => e = .returned (.bool true) ∧ Below w.heap.size w w' := by
  go_enter Tryz.func7, Tryz.ntmps7
  go_wp2_with fail
  refine (shownB_is _).mono ?_
  rintro e w1 ⟨rfl, hb1⟩
  have t1 := (Bk.new w (shC l0 l1 l2 l3 l4 l5 l6 l7 n keys mode grain) 40).below hb1
  have hw1 := after1 hb1
  have hr := hr.below hw1
  skip
  clear hb1
  obtain ⟨⟨x0, x1, x2, x3⟩, ⟨x4, x5, x6, x7⟩, ⟨x8, x9, x10, x11⟩⟩ := t1.shape
  go_wp2_with fail
  refine (madeB_eight h _).mono ?_
  rintro e w2 ⟨A, N, C, K, m, g, ts, rfl, hk, hN, hg8, ho, hb2⟩
  clear x0 x1 x2 x3 x4 x5 x6 x7 x8 x9 x10 x11 t1
  obtain ⟨_, _, hA, hC1, hC2, hv, -⟩ := ho.sv
  cases hA
  obtain ⟨G, rfl⟩ : ∃ G : Nat, g = (G : Int) := ⟨g.toNat, by have := (check_is hk).2.2.2.2.2.2.1; omega⟩
  have hG : 1 ≤ G ∧ G ≤ 64 := by have h1 := (check_is hk).2.2.2.2.2.2.1; have h2 := (check_is hk).2.2.2.2.2.2.2.1; omega
  have hkk := Lib.hid (MadeG.keys hk)
  have hty : Hid (Ty ts) := Lib.hid (check_is hk).2.2.2.2.2.2.2.2
  have hlt := Lib.hid (IV.len hv)
  have HCK := Lib.hid hk
  have HG8 : Hid (G ≤ 8) := Lib.hid (by omega)
  clear hg8
  have hx := Sx.new w2 A N C K m (G : Int) 24
  have hr := (hr.below hb2).alloc (.cells #[.slice A N C, .int .i64 K, .int .i64 m, .int .i64 (G : Int)] 24)
  have hv := hv.alloc (.cells #[.slice A N C, .int .i64 K, .int .i64 m, .int .i64 (G : Int)] 24)
  have hw := (Below.then hw1 hb2).alloc (by have := (Below.then hw1 hb2).size; omega) (.cells #[.slice A N C, .int .i64 K, .int .i64 m, .int .i64 (G : Int)] 24)
  skip
  have hN1 : N ≤ maxLen := few_max (by omega)
  have hK1 : K ≤ maxLen := few_max (by have := hkk.out; omega)
  go_wp2_with fail
  generalize w2.alloc (.cells #[.slice A N C, .int .i64 K, .int .i64 m, .int .i64 (G : Int)] 24) = w3 at *
  generalize w2.heap.size = bs at *
  clear ho hb2 hw1 hk
  have HRG : Hid (∀ v ∈ ([] : RowV) :: fewR vss, RgV v) := Lib.hid (fun v hv => by
    rcases List.mem_cons.1 hv with rfl | hv
    · exact fun x hx => by cases hx
    · exact fewR_rg hg v hv)
  obtain ⟨c0, c1, c2, c3⟩ := id hx
  go_cut [7] (fun v wx => ∃ (a : Option Addr) (j c : Nat) (l : List RowV), v = .slice a j c ∧ RVs wx a j l ∧ 1 ≤ j ∧ j ≤ 40 ∧ Hid (∀ v ∈ l, FR ts v) ∧ Hid (InA (cN ts K) l) ∧ Below w3.heap.size w3 wx)
  case first => as_aux_lemma =>
    refine wp_region_noPanic ?_
    refine region_g 8 (Ext (World.drew _)) (by kernel_rfl) (Ext.refl _) (fun hS => ?_)
    refine take_g (i := 0) (v := ?_) [0] (some 28) rfl (by kernel_rfl) rfl (fun _ _ _ h => h) (Or.inl ⟨by rfl, ?_⟩) hS ?_
    rotate_left
    · (intro wq hq; have q0 := hq _ _ _ c0; have q1 := hq _ _ _ c1; have q2 := hq _ _ _ c2; have q3 := hq _ _ _ c3; go_simp); first | done | with_reducible rfl
    try simp only [Act.put, List.setIfInBounds_toArray, List.set_cons_zero, List.set_cons_succ]
    replace hS := Till.list 0 hS
    refine take_g (i := 1) (v := ?_) [7, 1] (some 29) rfl (by kernel_rfl) rfl (fun _ _ _ h => h) (Or.inl ⟨by rfl, ?_⟩) hS ?_
    rotate_left
    · (intro wq hq; have q0 := hq _ _ _ c0; have q1 := hq _ _ _ c1; have q2 := hq _ _ _ c2; have q3 := hq _ _ _ c3; go_simp); first | done | with_reducible rfl
    try simp only [Act.put, List.setIfInBounds_toArray, List.set_cons_zero, List.set_cons_succ]
    replace hS := Till.list 1 hS
    refine take_w (i := 4) (v := ?_) (some 32) rfl (by kernel_rfl) rfl (fun _ _ _ h => h) (Or.inl ⟨by rfl, ?_⟩) hS ?_
    rotate_left
    · (intro wq hq; go_simp); first | done | with_reducible rfl
    try simp only [Act.put, List.setIfInBounds_toArray, List.set_cons_zero, List.set_cons_succ]
    replace hS := Till.list 4 hS
    refine ready_g (rs := [2, 5]) (by kernel_rfl) (by simp) ?_
    refine (AllReadyG.cons rfl (fun Kont hK => ?_) (AllReadyG.cons rfl (fun Kont hK => ?_) AllReadyG.nil))
    · skip
      go_simp
      refine hK.out _ _ (Or.inr ((hS.get (by kernel_rfl)).alloc _)) (fun hS0 => ?_)
      clear hK Kont
      try simp only [Act.put, List.setIfInBounds_toArray, List.set_cons_zero, List.set_cons_succ]
      clear hS
      have hS := hS0
      clear hS0
      refine ready_g (rs := [3, 5]) (by kernel_rfl) (by simp) ?_
      refine (AllReadyG.cons rfl (fun Kont hK => ?_) (AllReadyG.cons rfl (fun Kont hK => ?_) AllReadyG.nil))
      · skip
        go_simp
        refine hK.out _ _ (Or.inr ((hS.get (by kernel_rfl)).alloc _)) (fun hS0 => ?_)
        clear hK Kont
        try simp only [Act.put, List.setIfInBounds_toArray, List.set_cons_zero, List.set_cons_succ]
        clear hS
        have hS := hS0
        clear hS0
        refine ready_g (rs := [5]) (by kernel_rfl) (by simp) ?_
        refine AllReadyG.cons rfl (fun Kont hK => ?_) AllReadyG.nil
        go_simp
        refine (fewB_any R nr cr vss _ (((hr.alloc (.cells #[] 62)).alloc (.cells #[.slice (some ⟨w3.heap.size, 0, none⟩) 0 0] 46)).below (Below.refl _ _).drew) hnr).mono ?_
        rintro e w5 ⟨j5, v5, rfl, hj5, of5, hbf⟩
        obtain ⟨A5, C5, rfl, rf5⟩ := of5.rvs
        have bk5 := Bk.below (w := ((w3.alloc (.cells #[] 62)).alloc (.cells #[.slice (some ⟨w3.heap.size, 0, none⟩) 0 0] 46)).drew) (Bk.new (w3.alloc (.cells #[] 62)) #[.slice (some ⟨w3.heap.size, 0, none⟩) 0 0] 46) hbf
        rw [heap_alloc] at bk5
        have ho5 := OS.below (w := ((w3.alloc (.cells #[] 62)).alloc (.cells #[.slice (some ⟨w3.heap.size, 0, none⟩) 0 0] 46)).drew) (OS.lit (k := 1) (w3.alloc (.cells #[] 62)) w3.heap.size (by simp) [.slice (some ⟨w3.heap.size, 0, none⟩) 0 0] 1 46 rfl (by simp [Value.oneCell']) (few_max (by omega)) (w3.heap.size + 1) (by simp)) hbf
        have hb5 : Below w3.heap.size w3 w5 := Below.then (Joins.below_alloc2 w3 (.cells #[] 62) (.cells #[.slice (some ⟨w3.heap.size, 0, none⟩) 0 0] 46)).drew hbf
        refine hK.out _ _ (Or.inr ((hS.get (by kernel_rfl)).trans (Ext.below hbf))) (fun hS0 => ?_)
        clear hK Kont
        try simp only [Act.put, List.setIfInBounds_toArray, List.set_cons_zero, List.set_cons_succ]
        clear hS
        have hS := hS0
        clear hS0
        clear hbf of5
        refine ready_g (rs := [6]) (by kernel_rfl) (by simp) ?_
        refine AllReadyG.cons rfl (fun Kont hK => ?_) AllReadyG.nil
        refine want (by kernel_rfl) ?_
        obtain ⟨qs5, sq1, sq2, sq3⟩ := rf5.pairs
        refine wp_append_os2 el_rows (some 34) rfl (.tmp 31) (.tmp 33) rfl w3.heap.size _ 1 _ rfl ho5 A5 j5 C5 (pc qs5) rfl sq1 (by omega) (by omega) hb5.size ?_
        intro v6 w6 ho6 hb6 hk6 hst6
        obtain ⟨a6, c6, rfl, rv6⟩ := start_rows bk5 sq3 ho6 hst6
        rw [sq2] at rv6
        have hw6 := hb5.trans hb6
        have hv6 := hv.below hw6
        refine hK.out _ _ (Or.inr (((hS.get (by kernel_rfl)).low hb6 (Nat.le_refl _)))) (fun hS0 => ?_)
        clear hK Kont
        try simp only [Act.put, List.setIfInBounds_toArray, List.set_cons_zero, List.set_cons_succ]
        clear hS
        have hS := hS0
        clear hS0
        clear ho6 hk6 hst6 hb6 ho5 bk5 rf5 sq1 sq2 sq3 hb5
        refine ready_g (rs := [7]) (by kernel_rfl) (by simp) ?_
        refine AllReadyG.cons rfl (fun Kont hK => ?_) AllReadyG.nil
        go_simp
        refine (fits_rows A N C ts K m (G : Int) a6 (1 + j5) c6 ([] :: fewR vss) 40 w6 hv6 (by omega) rv6 (few_max (by omega)) (by omega)).mono ?_
        have hF := fitsL_fr hty.out HRG.out 40
        have hfl := fitsL_len ts ([] :: fewR vss) 40
        have hf1 := fitsL_one (ts := ts) (l := fewR vss)
        obtain ⟨fs, hfs⟩ : ∃ fs, fitsL ts ([] :: fewR vss) 40 = fs := ⟨_, rfl⟩
        rw [hfs] at hF hfl hf1 ⊢
        rintro e w7 ⟨j7, v7, rfl, hj7, o7, hb7⟩
        obtain ⟨a7, c7, rfl, rv7⟩ := o7.rvs
        have hv7 := hv6.below hb7
        have hw7 := Below.then hw6 hb7
        refine hK.out _ _ (Or.inr ((hS.get (by kernel_rfl)).trans (Ext.below hb7))) (fun hS0 => ?_)
        clear hK Kont
        try simp only [Act.put, List.setIfInBounds_toArray, List.set_cons_zero, List.set_cons_succ]
        clear hS
        have hS := hS0
        clear hS0
        refine ready_g (rs := [8]) (by kernel_rfl) (by simp) ?_
        refine AllReadyG.cons rfl (fun Kont hK => ?_) AllReadyG.nil
        go_simp
        obtain ⟨qs, hq1, hq2, hq3⟩ := rv7.pairs
        have HQ := Lib.hid hq2
        have HI : Hid (InA (cN ts K) (sortA (cN ts K) fs) ∧ ∀ v ∈ sortA (cN ts K) fs, FR ts v) := ⟨sortA_in (cN_ord hty.out K).a _, sorted_fr hF⟩
        refine (r9sort_any A N C ts K m (G : Int) a7 j7 c7 qs _ hv7 hN1 hK1 hq1 hq3 (by omega) (fun q hq => hF q.2 (by rw [← HQ.out]; exact List.mem_map.2 ⟨q, hq, rfl⟩))).mono ?_
        rintro e w8 ⟨v8, rfl, o8, hb8⟩
        obtain ⟨a8, c8, rfl, -, -, sv8, -⟩ := OS.sv o8
        have hlq : (sortA (cP ts K) qs).length = j7 := by rw [sortA_len]; have := hq1.1; rw [pc_len] at this; omega
        have hjf : Hid (j7 = fs.length) := Lib.hid (by have := rv7.1; omega)
        rw [hlq] at sv8
        have hs8 : (sortA (cP ts K) qs).map (·.2) = sortA (cN ts K) fs := by rw [← HQ.out]; exact sortA_map (cN ts K) (fun p : P9 => p.2) qs
        have rv8 := RVs.of sv8 (fun p hp => (hq3 p (sortA_mem.1 hp)).below hb8)
        rw [hs8] at rv8
        have hw8 := Below.then hw7 hb8
        rw [hlq]
        refine hK.out _ _ (Or.inl (by kernel_rfl)) (fun hS0 => ?_)
        clear hK Kont
        try simp only [Act.put, List.setIfInBounds_toArray, List.set_cons_zero, List.set_cons_succ]
        clear hS
        have hS := hS0
        clear hS0
        refine take_w (i := 9) (v := ?_) (some 7) rfl (by kernel_rfl) rfl (fun _ _ _ h => h) (Or.inl ⟨by rfl, ?_⟩) hS ?_
        rotate_left
        · (intro wq hq; go_simp); first | done | with_reducible rfl
        try simp only [Act.put, List.setIfInBounds_toArray, List.set_cons_zero, List.set_cons_succ]
        replace hS := Till.list 9 hS
        refine done_g (by kernel_rfl) (NoPanic.normal ?_) _
        clear hS
        clear sv8 o8 hq1 hq3 rv7 rv6
        go_wp2_with fail
        go_meet
        exact ⟨a8, j7, c8, sortA (cN ts K) fs, rfl, rv8, by have := hjf.out; omega, by omega, Lib.hid HI.out.2, Lib.hid HI.out.1, hw8⟩
      · skip
        go_simp
        refine (fewB_any R nr cr vss _ ((hr.alloc (.cells #[] 62)).below (Below.refl _ _).drew) hnr).mono ?_
        rintro e wf ⟨j5, v5, rfl, hj5, of5, hbf⟩
        obtain ⟨A5, C5, rfl, rf5⟩ := of5.rvs
        have bk5 := Bk.new wf #[.slice (some ⟨w3.heap.size, 0, none⟩) 0 0] 46
        have hbw : Below w3.heap.size w3 wf := Below.then (Joins.below_alloc1 w3 (.cells #[] 62)).drew hbf
        have ho5 := OS.lit (k := 1) wf w3.heap.size hbw.size [.slice (some ⟨w3.heap.size, 0, none⟩) 0 0] 1 46 rfl (by simp [Value.oneCell']) (few_max (by omega)) wf.heap.size rfl
        have hb5 := hbw.alloc hbw.size (.cells #[.slice (some ⟨w3.heap.size, 0, none⟩) 0 0] 46)
        have rf5 := rf5.alloc (.cells #[.slice (some ⟨w3.heap.size, 0, none⟩) 0 0] 46)
        refine hK.out _ _ (Or.inr ((hS.get (by kernel_rfl)).trans (Ext.below hbf))) (fun hS0 => ?_)
        clear hK Kont
        try simp only [Act.put, List.setIfInBounds_toArray, List.set_cons_zero, List.set_cons_succ]
        clear hS
        have hS := hS0
        clear hS0
        clear hbf of5 hbw
        refine ready_g (rs := [3]) (by kernel_rfl) (by simp) ?_
        refine AllReadyG.cons rfl (fun Kont hK => ?_) AllReadyG.nil
        go_simp
        refine hK.out _ _ (Or.inr ((hS.get (by kernel_rfl)).alloc _)) (fun hS0 => ?_)
        clear hK Kont
        try simp only [Act.put, List.setIfInBounds_toArray, List.set_cons_zero, List.set_cons_succ]
        clear hS
        have hS := hS0
        clear hS0
        refine ready_g (rs := [6]) (by kernel_rfl) (by simp) ?_
        refine AllReadyG.cons rfl (fun Kont hK => ?_) AllReadyG.nil
        refine want (by kernel_rfl) ?_
        obtain ⟨qs5, sq1, sq2, sq3⟩ := rf5.pairs
        refine wp_append_os2 el_rows (some 34) rfl (.tmp 31) (.tmp 33) rfl w3.heap.size _ 1 _ rfl ho5 A5 j5 C5 (pc qs5) rfl sq1 (by omega) (by omega) hb5.size ?_
        intro v6 w6 ho6 hb6 hk6 hst6
        obtain ⟨a6, c6, rfl, rv6⟩ := start_rows bk5 sq3 ho6 hst6
        rw [sq2] at rv6
        have hw6 := hb5.trans hb6
        have hv6 := hv.below hw6
        refine hK.out _ _ (Or.inr (((hS.get (by kernel_rfl)).low hb6 (Nat.le_refl _)))) (fun hS0 => ?_)
        clear hK Kont
        try simp only [Act.put, List.setIfInBounds_toArray, List.set_cons_zero, List.set_cons_succ]
        clear hS
        have hS := hS0
        clear hS0
        clear ho6 hk6 hst6 hb6 ho5 bk5 rf5 sq1 sq2 sq3 hb5
        refine ready_g (rs := [7]) (by kernel_rfl) (by simp) ?_
        refine AllReadyG.cons rfl (fun Kont hK => ?_) AllReadyG.nil
        go_simp
        refine (fits_rows A N C ts K m (G : Int) a6 (1 + j5) c6 ([] :: fewR vss) 40 w6 hv6 (by omega) rv6 (few_max (by omega)) (by omega)).mono ?_
        have hF := fitsL_fr hty.out HRG.out 40
        have hfl := fitsL_len ts ([] :: fewR vss) 40
        have hf1 := fitsL_one (ts := ts) (l := fewR vss)
        obtain ⟨fs, hfs⟩ : ∃ fs, fitsL ts ([] :: fewR vss) 40 = fs := ⟨_, rfl⟩
        rw [hfs] at hF hfl hf1 ⊢
        rintro e w7 ⟨j7, v7, rfl, hj7, o7, hb7⟩
        obtain ⟨a7, c7, rfl, rv7⟩ := o7.rvs
        have hv7 := hv6.below hb7
        have hw7 := Below.then hw6 hb7
        refine hK.out _ _ (Or.inr ((hS.get (by kernel_rfl)).trans (Ext.below hb7))) (fun hS0 => ?_)
        clear hK Kont
        try simp only [Act.put, List.setIfInBounds_toArray, List.set_cons_zero, List.set_cons_succ]
        clear hS
        have hS := hS0
        clear hS0
        refine ready_g (rs := [8]) (by kernel_rfl) (by simp) ?_
        refine AllReadyG.cons rfl (fun Kont hK => ?_) AllReadyG.nil
        go_simp
        obtain ⟨qs, hq1, hq2, hq3⟩ := rv7.pairs
        have HQ := Lib.hid hq2
        have HI : Hid (InA (cN ts K) (sortA (cN ts K) fs) ∧ ∀ v ∈ sortA (cN ts K) fs, FR ts v) := ⟨sortA_in (cN_ord hty.out K).a _, sorted_fr hF⟩
        refine (r9sort_any A N C ts K m (G : Int) a7 j7 c7 qs _ hv7 hN1 hK1 hq1 hq3 (by omega) (fun q hq => hF q.2 (by rw [← HQ.out]; exact List.mem_map.2 ⟨q, hq, rfl⟩))).mono ?_
        rintro e w8 ⟨v8, rfl, o8, hb8⟩
        obtain ⟨a8, c8, rfl, -, -, sv8, -⟩ := OS.sv o8
        have hlq : (sortA (cP ts K) qs).length = j7 := by rw [sortA_len]; have := hq1.1; rw [pc_len] at this; omega
        have hjf : Hid (j7 = fs.length) := Lib.hid (by have := rv7.1; omega)
        rw [hlq] at sv8
        have hs8 : (sortA (cP ts K) qs).map (·.2) = sortA (cN ts K) fs := by rw [← HQ.out]; exact sortA_map (cN ts K) (fun p : P9 => p.2) qs
        have rv8 := RVs.of sv8 (fun p hp => (hq3 p (sortA_mem.1 hp)).below hb8)
        rw [hs8] at rv8
        have hw8 := Below.then hw7 hb8
        rw [hlq]
        refine hK.out _ _ (Or.inl (by kernel_rfl)) (fun hS0 => ?_)
        clear hK Kont
        try simp only [Act.put, List.setIfInBounds_toArray, List.set_cons_zero, List.set_cons_succ]
        clear hS
        have hS := hS0
        clear hS0
        refine take_w (i := 9) (v := ?_) (some 7) rfl (by kernel_rfl) rfl (fun _ _ _ h => h) (Or.inl ⟨by rfl, ?_⟩) hS ?_
        rotate_left
        · (intro wq hq; go_simp); first | done | with_reducible rfl
        try simp only [Act.put, List.setIfInBounds_toArray, List.set_cons_zero, List.set_cons_succ]
        replace hS := Till.list 9 hS
        refine done_g (by kernel_rfl) (NoPanic.normal ?_) _
        clear hS
        clear sv8 o8 hq1 hq3 rv7 rv6
        go_wp2_with fail
        go_meet
        exact ⟨a8, j7, c8, sortA (cN ts K) fs, rfl, rv8, by have := hjf.out; omega, by omega, Lib.hid HI.out.2, Lib.hid HI.out.1, hw8⟩
    · skip
      go_simp
      refine (fewB_any R nr cr vss _ (hr.below (Below.refl _ _).drew) hnr).mono ?_
      rintro e wf ⟨j5, v5, rfl, hj5, of5, hbf⟩
      obtain ⟨A5, C5, rfl, rf5⟩ := of5.rvs
      have hbw : Below w3.heap.size w3 wf := Below.then (Below.refl w3.heap.size w3).drew hbf
      have bk5 := Bk.new (wf.alloc (.cells #[] 62)) #[.slice (some ⟨wf.heap.size, 0, none⟩) 0 0] 46
      rw [heap_alloc] at bk5
      have ho5 := OS.lit (k := 1) (wf.alloc (.cells #[] 62)) w3.heap.size (by have := hbw.size; rw [heap_alloc]; omega) [.slice (some ⟨wf.heap.size, 0, none⟩) 0 0] 1 46 rfl (by simp [Value.oneCell']) (few_max (by omega)) (wf.heap.size + 1) (by simp)
      have hb5 := (hbw.alloc hbw.size (.cells #[] 62)).alloc (by have := hbw.size; rw [heap_alloc]; omega) (.cells #[.slice (some ⟨wf.heap.size, 0, none⟩) 0 0] 46)
      have rf5 := (rf5.alloc (.cells #[] 62)).alloc (.cells #[.slice (some ⟨wf.heap.size, 0, none⟩) 0 0] 46)
      refine hK.out _ _ (Or.inr ((hS.get (by kernel_rfl)).trans (Ext.below hbf))) (fun hS0 => ?_)
      clear hK Kont
      try simp only [Act.put, List.setIfInBounds_toArray, List.set_cons_zero, List.set_cons_succ]
      clear hS
      have hS := hS0
      clear hS0
      clear hbf of5 hbw
      refine ready_g (rs := [2]) (by kernel_rfl) (by simp) ?_
      refine AllReadyG.cons rfl (fun Kont hK => ?_) AllReadyG.nil
      go_simp
      refine hK.out _ _ (Or.inr ((hS.get (by kernel_rfl)).alloc _)) (fun hS0 => ?_)
      clear hK Kont
      try simp only [Act.put, List.setIfInBounds_toArray, List.set_cons_zero, List.set_cons_succ]
      clear hS
      have hS := hS0
      clear hS0
      refine ready_g (rs := [3]) (by kernel_rfl) (by simp) ?_
      refine AllReadyG.cons rfl (fun Kont hK => ?_) AllReadyG.nil
      go_simp
      refine hK.out _ _ (Or.inr ((hS.get (by kernel_rfl)).alloc _)) (fun hS0 => ?_)
      clear hK Kont
      try simp only [Act.put, List.setIfInBounds_toArray, List.set_cons_zero, List.set_cons_succ]
      clear hS
      have hS := hS0
      clear hS0
      refine ready_g (rs := [6]) (by kernel_rfl) (by simp) ?_
      refine AllReadyG.cons rfl (fun Kont hK => ?_) AllReadyG.nil
      refine want (by kernel_rfl) ?_
      obtain ⟨qs5, sq1, sq2, sq3⟩ := rf5.pairs
      refine wp_append_os2 el_rows (some 34) rfl (.tmp 31) (.tmp 33) rfl w3.heap.size _ 1 _ rfl ho5 A5 j5 C5 (pc qs5) rfl sq1 (by omega) (by omega) hb5.size ?_
      intro v6 w6 ho6 hb6 hk6 hst6
      obtain ⟨a6, c6, rfl, rv6⟩ := start_rows bk5 sq3 ho6 hst6
      rw [sq2] at rv6
      have hw6 := hb5.trans hb6
      have hv6 := hv.below hw6
      refine hK.out _ _ (Or.inr (((hS.get (by kernel_rfl)).low hb6 (Nat.le_refl _)))) (fun hS0 => ?_)
      clear hK Kont
      try simp only [Act.put, List.setIfInBounds_toArray, List.set_cons_zero, List.set_cons_succ]
      clear hS
      have hS := hS0
      clear hS0
      clear ho6 hk6 hst6 hb6 ho5 bk5 rf5 sq1 sq2 sq3 hb5
      refine ready_g (rs := [7]) (by kernel_rfl) (by simp) ?_
      refine AllReadyG.cons rfl (fun Kont hK => ?_) AllReadyG.nil
      go_simp
      refine (fits_rows A N C ts K m (G : Int) a6 (1 + j5) c6 ([] :: fewR vss) 40 w6 hv6 (by omega) rv6 (few_max (by omega)) (by omega)).mono ?_
      have hF := fitsL_fr hty.out HRG.out 40
      have hfl := fitsL_len ts ([] :: fewR vss) 40
      have hf1 := fitsL_one (ts := ts) (l := fewR vss)
      obtain ⟨fs, hfs⟩ : ∃ fs, fitsL ts ([] :: fewR vss) 40 = fs := ⟨_, rfl⟩
      rw [hfs] at hF hfl hf1 ⊢
      rintro e w7 ⟨j7, v7, rfl, hj7, o7, hb7⟩
      obtain ⟨a7, c7, rfl, rv7⟩ := o7.rvs
      have hv7 := hv6.below hb7
      have hw7 := Below.then hw6 hb7
      refine hK.out _ _ (Or.inr ((hS.get (by kernel_rfl)).trans (Ext.below hb7))) (fun hS0 => ?_)
      clear hK Kont
      try simp only [Act.put, List.setIfInBounds_toArray, List.set_cons_zero, List.set_cons_succ]
      clear hS
      have hS := hS0
      clear hS0
      refine ready_g (rs := [8]) (by kernel_rfl) (by simp) ?_
      refine AllReadyG.cons rfl (fun Kont hK => ?_) AllReadyG.nil
      go_simp
      obtain ⟨qs, hq1, hq2, hq3⟩ := rv7.pairs
      have HQ := Lib.hid hq2
      have HI : Hid (InA (cN ts K) (sortA (cN ts K) fs) ∧ ∀ v ∈ sortA (cN ts K) fs, FR ts v) := ⟨sortA_in (cN_ord hty.out K).a _, sorted_fr hF⟩
      refine (r9sort_any A N C ts K m (G : Int) a7 j7 c7 qs _ hv7 hN1 hK1 hq1 hq3 (by omega) (fun q hq => hF q.2 (by rw [← HQ.out]; exact List.mem_map.2 ⟨q, hq, rfl⟩))).mono ?_
      rintro e w8 ⟨v8, rfl, o8, hb8⟩
      obtain ⟨a8, c8, rfl, -, -, sv8, -⟩ := OS.sv o8
      have hlq : (sortA (cP ts K) qs).length = j7 := by rw [sortA_len]; have := hq1.1; rw [pc_len] at this; omega
      have hjf : Hid (j7 = fs.length) := Lib.hid (by have := rv7.1; omega)
      rw [hlq] at sv8
      have hs8 : (sortA (cP ts K) qs).map (·.2) = sortA (cN ts K) fs := by rw [← HQ.out]; exact sortA_map (cN ts K) (fun p : P9 => p.2) qs
      have rv8 := RVs.of sv8 (fun p hp => (hq3 p (sortA_mem.1 hp)).below hb8)
      rw [hs8] at rv8
      have hw8 := Below.then hw7 hb8
      rw [hlq]
      refine hK.out _ _ (Or.inl (by kernel_rfl)) (fun hS0 => ?_)
      clear hK Kont
      try simp only [Act.put, List.setIfInBounds_toArray, List.set_cons_zero, List.set_cons_succ]
      clear hS
      have hS := hS0
      clear hS0
      refine take_w (i := 9) (v := ?_) (some 7) rfl (by kernel_rfl) rfl (fun _ _ _ h => h) (Or.inl ⟨by rfl, ?_⟩) hS ?_
      rotate_left
      · (intro wq hq; go_simp); first | done | with_reducible rfl
      try simp only [Act.put, List.setIfInBounds_toArray, List.set_cons_zero, List.set_cons_succ]
      replace hS := Till.list 9 hS
      refine done_g (by kernel_rfl) (NoPanic.normal ?_) _
      clear hS
      clear sv8 o8 hq1 hq3 rv7 rv6
      go_wp2_with fail
      go_meet
      exact ⟨a8, j7, c8, sortA (cN ts K) fs, rfl, rv8, by have := hjf.out; omega, by omega, Lib.hid HI.out.2, Lib.hid HI.out.1, hw8⟩
  obtain ⟨a9, j9, c9, l, rfl, rv9, hj1, hj2, HF, HI, hb9⟩ := hcut
  clear c0 c1 c2 c3 HRG
  have hv9 := SV.below hv hb9
  have hx9 := hx.below hb9
  have hw9 := Below.then hw hb9
  have hll := Lib.hid rv9.1
  have HPR := Lib.hid (made_prt HCK.out (by rw [hll.out]; exact hj1) (by rw [hll.out]; omega) HF.out HI.out)
  have hmost := part_most HPR.out.part.1
  have hlong := part_long ts K m G l
  rw [hlt.out, hll.out] at hmost
  have hml : N * j9 ≤ 8 * 40 := Nat.mul_le_mul hN hj2
  obtain ⟨pl, hpl⟩ : ∃ pl, (partL ts K m G l).length = pl := ⟨_, rfl⟩
  rw [hpl] at hmost hlong
  have HPL := Lib.hid hpl
  have hplm : pl ≤ 100000 := by omega
  obtain ⟨zs, hzs⟩ : ∃ zs, partL ts K m G l = zs := ⟨_, rfl⟩
  rw [hzs] at HPR HPL
  have HZ := Lib.hid hzs
  have HB := Lib.hid (show Byt zs by rw [← hzs]; exact HPR.out.part.1.byt)
  obtain ⟨c0, c1, c2, c3⟩ := id hx9
  clear hv hx hw hmost hml hpl hb9
  go_wp2_with fail
  refine (pwrite_any A N C ts K m G a9 j9 c9 l _ hv9 hN1 hC1 rv9 (few_max (by omega)) HPR.out.rg).mono ?_
  rintro e w10 (⟨-, v10, rfl, ou10, hb10⟩ | ⟨hbad, -⟩)
  case inr => exact absurd HPR.out.ok hbad
  rw [Int.toNat_natCast, Int.toNat_natCast, hzs] at ou10
  obtain ⟨g, c10, rfl, h101, hgb⟩ := ou10.ow.slice_of pl HPL.out (by omega)
  obtain ⟨a10, c10', e10, -, -, bv10, -⟩ := ou10.ow.bvn HB.out pl HPL.out
  cases e10
  have hu10 : ∀ b, b = g → U8K w10 b := fun b e => e ▸ ou10.u8 g rfl
  have ow10 := ou10.ow
  have hv10 := SV.below hv9 hb10
  have hx10 := hx9.below hb10
  have rv10 := rv9.below hb10
  clear c0 c1 c2 c3 ou10 hzs hlong
  go_wp2_with fail
  refine (popen_any (some ⟨g, 0, none⟩) pl c10 zs _ bv10 h101 (by omega)).mono ?_
  rintro e w11 ⟨⟨p, ts', K', m', G', l', rfl, pt, hpl, hpr'⟩ | ⟨rfl, hno⟩, hb11⟩
  rotate_left
  · exact absurd HPR.out (hno.out _ _ _ _ _)
  obtain ⟨rfl, rfl, rfl, rfl, rfl⟩ := HPR.out.one hpr'.out
  have hb11' := Below.then hb10 hb11
  have hgl : g < w10.heap.size := (ow10.ownU rfl).2
  have hu11 : ∀ b, b = g → U8K w11 b := fun b e => (hu10 b e).same (hb11.block b (by omega))
  have ow11 := ow10.below hb11
  have hgs : g < w11.heap.size := by have := hb11.size; omega
  clear hb11 ow10 hu10 bv10 hv10 hx10 rv10 hpr' hpl hb10 hgl
  go_wp2_with fail
  go_loopw [12] (fun i wr => ∃ (k : Nat) (bs : List Int), k ≤ pl ∧ i = .int .i64 (k : Int) ∧ Hid (bs.length = pl) ∧ OW wr wc.heap.size (.slice (some ⟨g, 0, none⟩) pl c10) bs ∧ Kp (fun b => b = g) w11 wr) (fun i _ => pl - (intOf i).toNat)
  case atStart => exact ⟨0, zs, by omega, rfl, HPL, ow11, Kp.refl _ _⟩
  case round =>
    clear ow11
    obtain ⟨k, zs', hk1, rfl, hzl, ow, hkp⟩ := hrel
    by_cases hlk : k < pl
    · have hki : (k : Int) < (pl : Int) := by omega
      have hck := ow.at k hlk
      have hfk := ow.free k
      have ow2 := ow.set k 0 hlk
      have hkp2 := hkp.setCell (b := g) (i := k) (.inl rfl) (.int .u8 0)
      have hzl2 : Hid ((zs'.set k 0).length = pl) := by show _ = _; rw [List.length_set]; exact hzl.out
      clear ow hkp hzl
      go_wp2_with fail
      go_roundw
      case rel => exact ⟨k + 1, _, by omega, by go_num, hzl2, ow2, hkp2⟩
      case measure => simp [intOf]; omega
    · have hki : ¬ (k : Int) < (pl : Int) := by omega
      have pt12 := pt.kp hu11 hkp
      have hbz : Below wc.heap.size wc wr := hb11'.trans (hkp.below (base := wc.heap.size) (fun b e => e ▸ hgb) (hb11'.size))
      have hw12 := Below.then hw9 hbz
      have hv12 := SV.below hv9 hbz
      have hx12 := hx9.below hbz
      have rv12 := rv9.below hbz
      clear ow hkp pt hu11 hb11' hbz hv9 hx9 rv9 hw9 hzl hgs
      obtain ⟨w12, e12⟩ : ∃ z, z = wr := ⟨wr, rfl⟩
      subst e12
      go_wp2_with fail
      refine (pall_any pt12 HPR.out.part.1).mono ?_
      rintro e w13 ⟨g1, rfl, cp, hb13⟩
      rw [hll.out] at cp ⊢
      obtain ⟨ps, -, rws⟩ := cp.rowsW (fun r hr => (HPR.out.part.1.row_len r hr).2)
      have pt13 := pt12.below hb13
      clear cp
      go_wp2_with fail
      refine (pschema_any pt13 HPR.out.part.1).mono ?_
      rintro e w14 ⟨A14, N14, C14, rfl, o14, hb14⟩
      have hb14' := Below.then hb13 hb14
      have rws := rws.below hb14
      clear pt13
      have rws := rws.alloc (.cells #[.slice A14 N14 C14, .int .i64 (K : Int), .int .i64 m, .int .i64 (G : Int)] 24)
      have hN14 : 1 ≤ N14 := by
        have h1 := IV.len o14.iv
        have h2 := HPR.out.part.1.nums.1.1
        omega
      have hN15 : N14 ≤ 64 := by
        have h1 := IV.len o14.iv
        have h2 := HPR.out.part.1.nums.1.2
        omega
      obtain ⟨gt, ct, et, hgt1, -, -, -, -, -⟩ := o14.own hN14
      cases et
      have hgt2 : gt < w14.heap.size := (o14.ownLow rfl).2
      have hsz13 : w13.heap.size ≤ w14.heap.size := hb14.size
      have sq : Sq 1 (w14.alloc (.cells #[.slice (some ⟨gt, 0, none⟩) N14 C14, .int .i64 (K : Int), .int .i64 m, .int .i64 (G : Int)] 24)) w13.heap.size (.slice (some ⟨gt, 0, none⟩) N14 C14) N14 := ⟨_, o14.alloc _⟩
      have bt := Bk.new w14 #[.slice (some ⟨gt, 0, none⟩) N14 C14, .int .i64 (K : Int), .int .i64 m, .int .i64 (G : Int)] 24
      have hb15 := hb14'.alloc hb14'.size (.cells #[.slice (some ⟨gt, 0, none⟩) N14 C14, .int .i64 (K : Int), .int .i64 m, .int .i64 (G : Int)] 24)
      clear o14 hb14'
      go_wp2_with fail
      generalize w14.alloc (.cells #[.slice (some ⟨gt, 0, none⟩) N14 C14, .int .i64 (K : Int), .int .i64 m, .int .i64 (G : Int)] 24) = w15 at *
      generalize w14.heap.size = bs14 at *
      have hM13 : w12.heap.size ≤ w13.heap.size := hb13.size
      go_loopw [15] (fun i wr => ∃ (x : Nat), x ≤ j9 ∧ i = .int .i64 (x : Int) ∧ RowsW wr w12.heap.size w13.heap.size g1 j9 ps ∧ Sq 1 wr w13.heap.size (.slice (some ⟨gt, 0, none⟩) N14 C14) N14 ∧ Bk wr bs14 #[.slice (some ⟨gt, 0, none⟩) N14 C14, .int .i64 (K : Int), .int .i64 m, .int .i64 (G : Int)] 24 ∧ Below w12.heap.size w12 wr) (fun i _ => j9 - (intOf i).toNat)
      case atStart => exact ⟨0, by omega, rfl, rws, sq, bt, hb15⟩
      case round =>
        clear rws sq bt hb15
        obtain ⟨x, hx1, rfl, rws, sq, bt, hb⟩ := hrel
        by_cases hlx : x < j9
        · have hxi : (x : Int) < (j9 : Int) := by omega
          obtain ⟨A1, L1, C1, -, hL1, -, hrow⟩ := rws.at x hlx
          have HROW := Lib.hid hrow
          clear hrow
          go_wp2_with fail
          go_loopw [16] (fun i wr => ∃ (y : Nat), y ≤ L1 ∧ i = .int .i64 (y : Int) ∧ RowsW wr w12.heap.size w13.heap.size g1 j9 ps ∧ Sq 1 wr w13.heap.size (.slice (some ⟨gt, 0, none⟩) N14 C14) N14 ∧ Bk wr bs14 #[.slice (some ⟨gt, 0, none⟩) N14 C14, .int .i64 (K : Int), .int .i64 m, .int .i64 (G : Int)] 24 ∧ Below w12.heap.size w12 wr) (fun i _ => L1 - (intOf i).toNat)
          case atStart => exact ⟨0, by omega, rfl, rws, sq, bt, hb⟩
          case round =>
            clear rws sq bt hb
            obtain ⟨y, hy1, rfl, rws, sq, bt, hb⟩ := hrel
            obtain ⟨hcr, hown⟩ := HROW.out wr rws
            by_cases hly : y < L1
            · have hyi : (y : Int) < (L1 : Int) := by omega
              obtain ⟨g2, rfl, hg2, hg3, hg4, hcell, hfree⟩ := hown (by omega)
              obtain ⟨z0, hz0⟩ := hcell (y * 2) (by omega)
              obtain ⟨z1, hz1⟩ := hcell (y * 2 + 1) (by omega)
              have hf0 := hfree (y * 2)
              have hf1 := hfree (y * 2 + 1)
              have rws2 := (rws.set (g := g2) (i := y * 2) (u := .int .i64 77) hg2 rfl).set (g := g2) (i := y * 2 + 1) (u := .string ⟨#[]⟩) hg2 rfl
              have sq2 := (sq.set (b := g2) (i := y * 2) (u := .int .i64 77) rfl).set (b := g2) (i := y * 2 + 1) (u := .string ⟨#[]⟩) rfl
              have bt2 := (bt.other (c := g2) (i := y * 2) (by omega) (.int .i64 77)).other (c := g2) (i := y * 2 + 1) (by omega) (.string ⟨#[]⟩)
              have hb2 := (hb.setCell (p := ⟨g2, y * 2, none⟩) hg4 (.int .i64 77)).setCell (p := ⟨g2, y * 2 + 1, none⟩) hg4 (.string ⟨#[]⟩)
              clear rws sq bt hb hcell hfree hown
              go_wp2_with fail
              go_roundw
              case rel => exact ⟨y + 1, by omega, by go_num, rws2, sq2, bt2, hb2⟩
              case measure => simp [intOf]; omega
            · have hyi : ¬ (y : Int) < (L1 : Int) := by omega
              go_wp2_with fail
              go_roundw
              case rel => exact ⟨x + 1, by omega, by go_num, rws, sq, bt, hb⟩
              case measure => simp [intOf]; omega
        · have hxi : ¬ (x : Int) < (j9 : Int) := by omega
          clear rws
          have hM12 := hb.size
          go_wp2_with fail
          go_loopw [17] (fun i wr => ∃ (y : Nat), y ≤ N14 ∧ i = .int .i64 (y : Int) ∧ Sq 1 wr w13.heap.size (.slice (some ⟨gt, 0, none⟩) N14 C14) N14 ∧ Bk wr bs14 #[.slice (some ⟨gt, 0, none⟩) N14 C14, .int .i64 (K : Int), .int .i64 m, .int .i64 (G : Int)] 24 ∧ Below w12.heap.size w12 wr) (fun i _ => N14 - (intOf i).toNat)
          case atStart => exact ⟨0, by omega, rfl, sq, bt, hb⟩
          case round =>
            clear sq bt hb
            obtain ⟨y, hy1, rfl, sq, bt, hb⟩ := hrel
            have hc0 := bt.cell 0 (v := .slice (some ⟨gt, 0, none⟩) N14 C14) rfl
            by_cases hly : y < N14
            · have hyi : (y : Int) < (N14 : Int) := by omega
              obtain ⟨g2, cap2, e2, hg2, hcell, hfree⟩ := sq.own hN14
              cases e2
              obtain ⟨z0, hz0⟩ := hcell y (by omega)
              have hf0 := hfree y
              have sq2 := sq.set (b := gt) (i := y) (u := .int .i64 9) rfl
              have bt2 := bt.other (c := gt) (i := y) (by omega) (.int .i64 9)
              have hb2 := hb.setCell (p := ⟨gt, y, none⟩) (by show w12.heap.size ≤ gt; omega) (.int .i64 9)
              clear sq bt hb hcell hfree
              go_wp2_with fail
              go_roundw
              case rel => exact ⟨y + 1, by omega, by go_num, sq2, bt2, hb2⟩
              case measure => simp [intOf]; omega
            · have hyi : ¬ (y : Int) < (N14 : Int) := by omega
              clear sq bt
              obtain ⟨q, hq⟩ : ∃ q, cntG G j9 = q := ⟨_, rfl⟩
              have hqj := cntG_le (j := j9) hG.1
              rw [hq] at hqj
              have HQ : Hid (cntG G l.length = q) := Lib.hid (by rw [hll.out, hq])
              clear hq
              go_wp2_with fail
              clear hc0
              go_loopw [18] (fun i wr => ∃ (x : Nat), x ≤ q ∧ i = .int .i64 (x : Int) ∧ Below w12.heap.size w12 wr) (fun i _ => q - (intOf i).toNat)
              case atStart => exact ⟨0, by omega, rfl, hb⟩
              case round =>
                clear hb
                obtain ⟨x, hxq, rfl, hb⟩ := hrel
                have cq := pgrans_any (pt12.below hb)
                rw [HQ.out] at cq
                go_wp2_with fail
                refine cq.mono ?_
                rintro e w17 ⟨rfl, hw17⟩
                subst hw17
                clear cq
                by_cases hlx : x < q
                · have hxi : (x : Int) < (q : Int) := by omega
                  have hxc : x < cntG G l.length := by rw [HQ.out]; exact hlx
                  have hgi := HPR.out.part.1.gran_len' hxc
                  have hhas : hasB (cntG G l.length) (x : Int) = true := decide_eq_true (by omega)
                  have hK1' : 1 ≤ K := by have := hkk.out; omega
                  obtain ⟨gl, hgl⟩ : ∃ gl, granL G l x = gl := ⟨_, rfl⟩
                  obtain ⟨L, hL⟩ : ∃ L, gl.length = L := ⟨_, rfl⟩
                  have HSH : Hid (∀ r ∈ gl, 1 ≤ r.length ∧ r.length ≤ 1000) := Lib.hid (by rw [← hgl]; exact fun r hr => ⟨by have := hgi.2.2 r hr; omega, (hgi.2.2 r hr).2⟩)
                  rw [hgl, hL] at hgi
                  have hL1 : 1 ≤ L := hgi.1
                  clear hgi
                  go_wp2_with fail
                  refine (pgran_any (pt12.below hb) HPR.out.part.1 (x : Int)).mono ?_
                  rintro e w18 ⟨⟨-, g5, rfl, cp⟩ | ⟨hbad, -⟩, hb18⟩
                  rotate_left
                  · rw [hhas] at hbad; cases hbad
                  rw [Int.toNat_natCast, hgl, hL] at cp ⊢
                  have hbi := Below.then hb hb18
                  go_wp2_with fail
                  refine (pmark_any (pt12.below hbi) HPR.out.part.1 (x : Int)).mono ?_
                  rintro e w19 ⟨⟨-, v7, rfl, o7⟩ | ⟨hbad, -⟩, hb19⟩
                  rotate_left
                  · rw [hhas] at hbad; cases hbad
                  obtain ⟨ps5, ⟨hps, hpl⟩, rws⟩ := cp.rowsW (fun r hr => (HSH.out r hr).2)
                  have rws := rws.below hb19
                  have hbj := Below.then hbi hb19
                  obtain ⟨a7, c7, rfl⟩ := o7.shape
                  have sq7 : Sq 2 w19 w18.heap.size (.slice a7 K c7) K := ⟨_, o7⟩
                  obtain ⟨A1, L1, C1, hc1, hL1', hL1e, hrow⟩ := rws.at 0 (by omega)
                  have hLL : 1 ≤ L1 := by
                    have h1 : ps5.getD 0 p9 ∈ ps5 := by
                      have h2 : 0 < ps5.length := by rw [rws.len]; omega
                      have e : ps5.getD 0 p9 = ps5[0] := by simp [List.getD, h2]
                      rw [e]; exact List.getElem_mem _
                    rw [hL1e, hpl _ h1]
                    exact (HSH.out _ (by rw [← hps]; exact List.mem_map.2 ⟨_, h1, rfl⟩)).1
                  obtain ⟨-, hown⟩ := hrow w19 rws
                  obtain ⟨g2, rfl, hg2, hg3, hg4, hcell, hfree⟩ := hown hLL
                  obtain ⟨z0, hz0⟩ := hcell 0 (by omega)
                  obtain ⟨z1, hz1⟩ := hcell 1 (by omega)
                  have hf0 := hfree 0
                  have hf1 := hfree 1
                  have sq8 := (sq7.set (b := g2) (i := 0) (u := .int .i64 78) rfl).set (b := g2) (i := 1) (u := .string ⟨#[]⟩) rfl
                  obtain ⟨g8, c8, e8, hg8, hcell8, hfree8⟩ := sq8.own hK1'
                  cases e8
                  obtain ⟨y0, hy0⟩ := hcell8 0 (by omega)
                  obtain ⟨y1, hy1'⟩ := hcell8 1 (by omega)
                  have hh0 := hfree8 0
                  have hh1 := hfree8 1
                  have hm17 : w12.heap.size ≤ w17.heap.size := hb.size
                  have hm18 : w12.heap.size ≤ w18.heap.size := hbi.size
                  have hbk := (hbj.setCell (p := ⟨g2, 0, none⟩) (by show w12.heap.size ≤ g2; omega) (.int .i64 78)).setCell (p := ⟨g2, 1, none⟩) (by show w12.heap.size ≤ g2; omega) (.string ⟨#[]⟩)
                  have hbl := (hbk.setCell (p := ⟨g8, 0, none⟩) (by show w12.heap.size ≤ g8; omega) (.int .i64 79)).setCell (p := ⟨g8, 1, none⟩) (by show w12.heap.size ≤ g8; omega) (.string ⟨#[]⟩)
                  clear rws hrow hown hcell hfree hcell8 hfree8 sq7 sq8 o7 cp hb hb18 hb19 hbi hbj hbk hps hpl hL1e hgl hL HSH
                  have hq1 : ((L : Int) == 0) = false := by rw [beq_eq_false_iff_ne]; omega
                  have hq2 : ((K : Int) == 0) = false := by rw [beq_eq_false_iff_ne]; omega
                  have hq3 : ((L1 : Int) == 0) = false := by rw [beq_eq_false_iff_ne]; omega
                  go_wp2_with fail
                  go_roundw
                  case rel => exact ⟨x + 1, by omega, by go_num, hbl⟩
                  case measure => simp [intOf]; omega
                · have hxi : ¬ (x : Int) < (q : Int) := by omega
                  have pt17 := pt12.below hb
                  have hv17 := SV.below hv12 hb
                  have hx17 := hx12.below hb
                  have rv17 := rv12.below hb
                  have hw17 := Below.then hw12 hb
                  clear hb pt12 hv12 hx12 rv12 hw12
                  go_wp2_with fail
                  refine (pall_any pt17 HPR.out.part.1).mono ?_
                  rintro e w18 ⟨g5, rfl, cp, hb18⟩
                  rw [hll.out] at cp ⊢
                  have pt18 := pt17.below hb18
                  have hv18 := SV.below hv17 hb18
                  have hx18 := hx17.below hb18
                  have rv18 := rv17.below hb18
                  have hw18 := Below.then hw17 hb18
                  clear pt17 hv17 hx17 rv17 hw17 hb18
                  go_wp2_with fail
                  refine (rrows_any _ j9 j9 l a9 j9 c9 l _ cp.rvs rv18 (few_max (by omega)) (few_max (by omega))).mono ?_
                  rw [decide_eq_true (rfl : l = l)]
                  rintro e w19 ⟨rfl, hb19⟩
                  have pt19 := pt18.below hb19
                  have hv19 := SV.below hv18 hb19
                  have hx19 := hx18.below hb19
                  have hw19 := Below.then hw18 hb19
                  clear cp pt18 hv18 hx18 rv18 hw18 hb19
                  obtain ⟨c0, c1, c2, c3⟩ := id hx19
                  have hbd : Below w19.heap.size w19 w19.drew := (Below.refl w19.heap.size w19).drew
                  have cc := pschema_any (pt19.below hbd) HPR.out.part.1
                  go_wp2_with fail
                  refine wp_region_noPanic ?_
                  refine region_g 3 (Ext (World.drew _)) (by kernel_rfl) (Ext.refl _) (fun hS => ?_)
                  refine take_w (i := 0) (v := ?_) (some 149) rfl (by kernel_rfl) rfl (fun _ _ _ h => h) (Or.inl ⟨by rfl, ?_⟩) hS ?_
                  rotate_left
                  · (intro wq hq; go_simp); first | done | with_reducible rfl
                  try simp only [Act.put, List.setIfInBounds_toArray, List.set_cons_zero, List.set_cons_succ]
                  replace hS := Till.list 0 hS
                  refine take_g (i := 2) (v := ?_) [2] (some 151) rfl (by kernel_rfl) rfl (fun _ _ _ h => h) (Or.inl ⟨by rfl, ?_⟩) hS ?_
                  rotate_left
                  · (intro wq hq; have q0 := hq _ _ _ c0; have q1 := hq _ _ _ c1; have q2 := hq _ _ _ c2; have q3 := hq _ _ _ c3; go_simp); first | done | with_reducible rfl
                  try simp only [Act.put, List.setIfInBounds_toArray, List.set_cons_zero, List.set_cons_succ]
                  replace hS := Till.list 2 hS
                  refine ready_g (rs := [1]) (by kernel_rfl) (by simp) ?_
                  refine AllReadyG.cons rfl (fun Kont hK => ?_) AllReadyG.nil
                  go_simp
                  refine cc.mono ?_
                  rintro e w20 ⟨A20, N20, C20, rfl, o20, hb20⟩
                  have iv20 := o20.iv
                  have hN20 : N20 ≤ maxLen := few_max (by have h1 := IV.len iv20; have h2 := hlt.out; omega)
                  have hv20 := SV.below hv19 (hbd.trans hb20)
                  have hw20 := Below.then hw19 (hbd.trans hb20)
                  refine hK.out _ _ (Or.inr ((hS.get (by kernel_rfl)).trans (Ext.below hb20))) (fun hS0 => ?_)
                  clear hK Kont
                  try simp only [Act.put, List.setIfInBounds_toArray, List.set_cons_zero, List.set_cons_succ]
                  clear hS
                  have hS := hS0
                  clear hS0
                  refine ready_g (rs := [3]) (by kernel_rfl) (by simp) ?_
                  refine AllReadyG.cons rfl (fun Kont hK => ?_) AllReadyG.nil
                  go_simp
                  refine (same_any A20 N20 C20 ts K m G A N C ts K m G _ iv20 hv20 hN20 hN1).mono ?_
                  rw [show sameS ts (K : Int) m (G : Int) ts (K : Int) m (G : Int) = true from decide_eq_true ⟨rfl, rfl, rfl, rfl⟩]
                  rintro e w21 ⟨rfl, hb21⟩
                  have hw21 := Below.then hw20 hb21
                  refine hK.out _ _ (Or.inl (by kernel_rfl)) (fun hS0 => ?_)
                  clear hK Kont
                  try simp only [Act.put, List.setIfInBounds_toArray, List.set_cons_zero, List.set_cons_succ]
                  clear hS
                  have hS := hS0
                  clear hS0
                  refine take_w (i := 4) (v := ?_) (some 24) rfl (by kernel_rfl) rfl (fun _ _ _ h => h) (Or.inl ⟨by rfl, ?_⟩) hS ?_
                  rotate_left
                  · (intro wq hq; go_simp); first | done | with_reducible rfl
                  try simp only [Act.put, List.setIfInBounds_toArray, List.set_cons_zero, List.set_cons_succ]
                  replace hS := Till.list 4 hS
                  refine done_g (by kernel_rfl) (NoPanic.normal ?_) _
                  clear hS
                  clear c0 c1 c2 c3
                  go_wp2_with fail
                  go_ret
                  exact ⟨rfl, hw21⟩
end Go.Proofs.YtbfihajgjbpmaaaGreat
/-
  PartOwn: for every shape and every list of rows the statement's function returns true, and its arguments read as they did. No condition.
-/
namespace Go.Proofs.YtbfihajgjbpmaaaGreat.partOwn
open Go.ChangeShapes Go.WideShapes Go.ChangeAt Go.RowKit
set_option linter.unusedVariables false
set_option maxRecDepth 4000

set_option maxRecDepth 100000 in
theorem lifted (os : Os) (started : os.Started) (H : Type) (enc : TypeId × Value → H) :
    ReturnsInHanded {} Tryz.checked os 7 .any (Rows.partOwnSpec.pre6 enc Tryz.prog Tryz.f7 Rows.partOwnRow.domain false) (Rows.partOwnSpec.post enc Tryz.prog Tryz.f7 false true false false) := by
  refine returnsInHanded_of_change (C := Tryz.checked) own started (by kernel_rfl) Tryz.func7
    (ChangeSpec.witness6 (enc := enc) (C := Tryz.checked) false ⟨#[], #[.agg #[.int .u8 0, .int .u8 0, .int .u8 0, .int .u8 0, .int .u8 0, .int .u8 0, .int .u8 0, .int .u8 0, .int .u8 0, .int .u8 0, .int .u8 0, .int .u8 0], .slice none 0 0], []⟩ 8 (by kernel_rfl) (by kernel_rfl) (by kernel_rfl) (by kernel_rfl)) ?_
  intro W base args ds gs before hval0 hW hcnd _
  have hval : ∀ (j : Nat) t v, Tryz.f7.params[j]? = some t → args[j]? = some v → Value.okWide Tryz.prog W .any base t v := hval0
  have hW' := hW
  obtain ⟨p, q, hA0, hV, rfl, hfz, hnd⟩ := hW
  have hA : DataW.TrodAll enc Tryz.prog W 0 (fun _ => true) true Tryz.f7.params.toList args.toList ds p := hA0
  rw [Tryz.params7] at hA hval
  obtain ⟨v0, vs0, d0, ds0, p0, q0, hargs0, rfl, rfl, h0, r0⟩ := trodAll_cons hA
  obtain ⟨v1, vs1, d1, ds1, p1, q1, hargs1, hds1, hq1, h1, r1⟩ := trodAll_cons r0
  obtain ⟨hn1, hn2, hn3⟩ := trodAll_nil r1
  subst hn2 hn3
  subst hds1 hq1
  obtain rfl : args = #[v0, v1] := by cases args; simp_all
  obtain ⟨rfl, rfl⟩ := trodVars_none hV
  have rd0 := h0
  have lt0 : ∀ x ∈ p0, x.block < W.heap.size := by obtain ⟨m, hm⟩ := rd0; exact DataW.trod_lt m _ _ _ hm
  obtain ⟨la0, lb0, lc0, ld0, le0, lf0, lg0, lh0, na0, nb0, nc0, nd0, rfl, S0⟩ := open_shape (hval 0 40 v0 rfl rfl) h0
  have rd1 := h1
  have lt1 : ∀ x ∈ p1, x.block < W.heap.size := by obtain ⟨m, hm⟩ := rd1; exact DataW.trod_lt m _ _ _ hm
  obtain ⟨A1, n1, c1, v1, rfl, W1, L1, R1⟩ := open_rows4 (hval 1 25 v1 rfl rfl) h1
  clear hA0 hval0
  refine (ownB_is S0 A1 n1 c1 v1 W W1 L1 R1).mono fun e W' ⟨he, bel⟩ => ?_
  subst he
  exact ⟨_, rfl, _, _, _, [], _, [], hW', trodAll_mk1 (shut_bool Tryz.underlying4 _), (trodAll_cons_mk (Below.trod laidOut (by kernel_rfl) (of_decide_eq_true (by kernel_rfl)) rd0 bel lt0) (trodAll_cons_mk (Below.trod laidOut (by kernel_rfl) (of_decide_eq_true (by kernel_rfl)) rd1 bel lt1) trodAll_mk0)), rfl, bel.frame _, fun h => by cases h⟩

theorem over : Rows.partOwnRow.holds Tryz.pinned (OpenSpec.ofChange Rows.partOwnSpec) :=
  OpenClaim.holds_of_wide 7 Tryz.f7 rfl rfl rfl rfl rfl rfl rfl ⟨rfl, rfl, rfl, rfl, rfl⟩ rfl rfl rfl rfl rfl (by kernel_rfl) Tryz.func7 (by kernel_rfl)
    (of_decide_eq_true (by kernel_rfl)) (by unfold Func.isWrapper; first | (rw [if_pos (by decide +kernel)]; kernel_rfl) | (rw [if_neg (by decide +kernel)]; exact ⟨rfl, rfl⟩))
    (fun os started H enc _ => lifted os started H enc)
end Go.Proofs.YtbfihajgjbpmaaaGreat.partOwn
namespace Go.Proofs.YtbfihajgjbpmaaaGreat
theorem partOwn_holds : Rows.PartOwnSaid := partOwn.over
end Go.Proofs.YtbfihajgjbpmaaaGreat
