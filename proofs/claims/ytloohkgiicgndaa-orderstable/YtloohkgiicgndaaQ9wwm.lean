/-
  OrderStable: for every slice of numbers the statement's function returns true, and its arguments read as they did. No condition.
-/
import Derived.Test.YtloohkgiicgndaaOrdF
import Derived.Test.YtloohkgiicgndaaRows
import Derived.WalkKit
import Derived.ProofKit
import Derived.OpenShut
import Derived.ShutString
import Derived.ChangeOld
import Derived.Below
import Derived.Test.YtloohkgiicgndaaSchC
/- OrderStable: the walk. -/
namespace Go.Proofs.Ytloohkgiicgndaa
open Go.ChangeShapes Go.WideShapes Go.ChangeAt Go.RowKit
set_option linter.unusedVariables false
set_option maxRecDepth 4000

/-- a row with a number behind its key -/
abbrev row9 (zs : List Int) (t : Nat) : RowV := [(zs.getD t 0, ⟨#[]⟩), ((t : Int), ⟨#[]⟩)]
def rows9 (zs : List Int) (j : Nat) : List RowV := (List.range j).map (row9 zs)
theorem rows9_snoc (zs : List Int) (j : Nat) : rows9 zs (j + 1) = rows9 zs j ++ [row9 zs j] := by
  unfold rows9; rw [List.range_succ, List.map_append]; rfl
theorem rows9_len (zs : List Int) (j : Nat) : (rows9 zs j).length = j := by simp [rows9]
theorem ty9 : Ty [1, 1] := by decide
theorem row9_fr {zs : List Int} {t : Nat} (hz : -9223372036854775808 ≤ zs.getD t 0 ∧ zs.getD t 0 ≤ 9223372036854775807) (ht : t ≤ 1000000) : FR [1, 1] (row9 zs t) :=
  ⟨rfl, ⟨.inl rfl, fits_num (.inl rfl), hz⟩, ⟨.inl rfl, fits_num (.inl rfl), by show -9223372036854775808 ≤ (t : Int) ∧ (t : Int) ≤ 9223372036854775807; omega⟩, trivial⟩
theorem rgs_at {zs : List Int} (h : Rgs zs) (t : Nat) : -9223372036854775808 ≤ zs.getD t 0 ∧ zs.getD t 0 ≤ 9223372036854775807 := by
  by_cases ht : t < zs.length
  · have := h _ (List.getElem_mem ht)
    simpa [List.getD, ht] using this
  · simp [List.getD, List.getElem?_eq_none (show zs.length ≤ t by omega)]
theorem cR_row9 (zs : List Int) (s t : Nat) : cR (([1, 1] : List Int).take 1) (row9 zs s) (row9 zs t) = cmpI (zs.getD s 0) (zs.getD t 0) := by
  have e : ∀ x y : Int, cV 1 (x, ⟨#[]⟩) (y, ⟨#[]⟩) = cmpI x y := fun x y => by
    unfold cV cmpV
    simp [fits_num]
  show cmpRow cV [1] (row9 zs s) (row9 zs t) = _
  rw [cmpRow, e]
  split
  · rename_i h; rw [h]; rfl
  · rfl
/-- what the rows are, put in order -/
structure Stb9 (zs : List Int) (j : Nat) (l : List RowV) : Prop where
  one : ∀ i, i < l.length → ∃ t, t < j ∧ l.getD i [] = row9 zs t
  two : ∀ i s t, i + 1 < l.length → s < j → t < j → l.getD i [] = row9 zs s → l.getD (i + 1) [] = row9 zs t → zs.getD s 0 < zs.getD t 0 ∨ (zs.getD s 0 = zs.getD t 0 ∧ s < t)
theorem stb9 {zs : List Int} {j : Nat} (hz : Rgs zs) (hj : j ≤ 1000000) : Stb9 zs j (sortA (cN [1, 1] 1) (rows9 zs j)) := by
  have ho := cN_ord ty9 1
  have hc : ∀ s t, s < j → t < j → cN [1, 1] 1 (row9 zs s) (row9 zs t) = cmpI (zs.getD s 0) (zs.getD t 0) := fun s t h1 h2 => by
    rw [cN_ok 1 (row9_fr (rgs_at hz s) (by omega)) (row9_fr (rgs_at hz t) (by omega)), cR_row9]
  refine ⟨fun i hi => ?_, fun i s t h0 h1 h2 e1 e2 => ?_⟩
  · have hm : (sortA (cN [1, 1] 1) (rows9 zs j)).getD i [] ∈ sortA (cN [1, 1] 1) (rows9 zs j) := by
      rw [List.getD_eq_getElem?_getD, List.getElem?_eq_getElem hi]; exact List.getElem_mem _
    obtain ⟨t, ht, e⟩ := List.mem_map.1 (sortA_mem.1 hm)
    exact ⟨t, List.mem_range.1 ht, e.symm⟩
  · have h3 := inA_at (d := ([] : RowV)) (sortA_in ho.a (rows9 zs j)) (show i < i + 1 by omega) h0
    rw [e1, e2, hc s t h1 h2] at h3
    by_cases hlt : zs.getD s 0 < zs.getD t 0
    · exact .inl hlt
    · have heq : zs.getD s 0 = zs.getD t 0 := by
        unfold cmpI at h3
        split at h3
        · omega
        · split at h3 <;> omega
      refine .inr ⟨heq, ?_⟩
      have hf := sortA_filter ho.a (row9 zs t) (rows9 zs j)
      have hp : ((rows9 zs j).filter (eqA (cN [1, 1] 1) (row9 zs t))).Pairwise (fun x y => (x.getD 1 v0).1 < (y.getD 1 v0).1) := by
        rw [List.pairwise_filter]
        unfold rows9
        rw [List.pairwise_map, List.pairwise_iff_getElem]
        intro x y hx hy hxy _ _
        rw [List.getElem_range, List.getElem_range]
        show ((x : Nat) : Int) < ((y : Nat) : Int)
        omega
      rw [← hf, List.pairwise_filter, List.pairwise_iff_getElem] at hp
      have hii : i < (sortA (cN [1, 1] 1) (rows9 zs j)).length := by omega
      have q := hp i (i + 1) hii h0 (by omega)
      have g1 : (sortA (cN [1, 1] 1) (rows9 zs j))[i] = row9 zs s := by rw [← e1]; simp [List.getD, hii]
      have g2 : (sortA (cN [1, 1] 1) (rows9 zs j))[i + 1] = row9 zs t := by rw [← e2]; simp [List.getD, h0]
      rw [g1, g2] at q
      have z1 : cmpI (zs.getD s 0) (zs.getD t 0) = 0 := by rw [heq]; unfold cmpI; simp
      have z2 : cmpI (zs.getD t 0) (zs.getD s 0) = 0 := by rw [heq]; unfold cmpI; simp
      have z3 : cmpI (zs.getD t 0) (zs.getD t 0) = 0 := by unfold cmpI; simp
      have q1 := q (decide_eq_true (by rw [hc s t h1 h2, hc t s h2 h1, z1, z2]; exact ⟨Int.le_refl _, Int.le_refl _⟩)) (decide_eq_true (by rw [hc t t h2 h2, z3]; exact ⟨Int.le_refl _, Int.le_refl _⟩))
      have q2 : ((s : Nat) : Int) < ((t : Nat) : Int) := q1
      omega
set_option maxRecDepth 4000 in
set_option maxHeartbeats 16000000 in
theorem stable9_is (Ak : Option Addr) (nk ck : Nat) (zs : List Int) (w : World) (hz : IV w Ak nk zs) (hnk : nk ≤ maxLen) (hzr : Rgs zs) :
    Calls Try.prog 6 #[.slice Ak nk ck] w fun e w' => e = .returned (.bool true) ∧ Below w.heap.size w w' := by
  have hnk' := hnk
  unfold maxLen at hnk'
  go_enter Try.func6, Try.ntmps6
  go_wp2_with fail
  refine (shown9_is _).mono ?_
  rintro e w1 ⟨rfl, hb1⟩
  have iv := SV.lit (k := 1) w1 (icells [1, 1]) 2 3 rfl (icells_one _)
  have iv1 : IV ((w1.alloc (.cells #[.int .i64 1, .int .i64 1] 3)).alloc (.cells #[.slice (some ⟨w1.heap.size, 0, none⟩) 2 2, .int .i64 1, .int .i64 1, .int .i64 4] 31)) (some ⟨w1.heap.size, 0, none⟩) 2 [1, 1] := iv.alloc _
  have sx := (Sx.new (w1.alloc (.cells #[.int .i64 1, .int .i64 1] 3)) (some ⟨w1.heap.size, 0, none⟩) 2 2 1 1 4 31)
  rw [heap_alloc] at sx
  have hb2 := Joins.below_alloc2 w1 (.cells #[.int .i64 1, .int .i64 1] 3) (.cells #[.slice (some ⟨w1.heap.size, 0, none⟩) 2 2, .int .i64 1, .int .i64 1, .int .i64 4] 31)
  have hs2 : ((w1.alloc (.cells #[.int .i64 1, .int .i64 1] 3)).alloc (.cells #[.slice (some ⟨w1.heap.size, 0, none⟩) 2 2, .int .i64 1, .int .i64 1, .int .i64 4] 31)).heap.size = w1.heap.size + 1 + 1 := by rw [heap_alloc, heap_alloc]
  have hz2 := (SV.below hz hb1).below hb2
  have hbw := Below.then hb1 hb2
  clear iv hb1 hb2 hz
  go_wp2_with fail
  generalize (w1.alloc (.cells #[.int .i64 1, .int .i64 1] 3)).alloc (.cells #[.slice (some ⟨w1.heap.size, 0, none⟩) 2 2, .int .i64 1, .int .i64 1, .int .i64 4] 31) = w2 at *
  have or0 : OwnRows (w2.alloc (.cells #[] 27)) w2.heap.size (.slice (some ⟨w1.heap.size + 1 + 1, 0, none⟩) 0 0) 0 [] := ⟨[], OS.lit (k := 1) w2 w2.heap.size (Nat.le_refl _) [] 0 27 rfl (by simp) (by simp) _ hs2.symm, rfl, fun i hi => by omega⟩
  have hb0 := Joins.below_alloc1 w2 (.cells #[] 27)
  clear hs2
  generalize hbs : w1.heap.size = bs at *
  clear hbs
  go_loopw [5, 6] (fun o vi wr => ∃ j : Nat, j ≤ nk ∧ j ≤ 60 ∧ vi = .int .i64 (j : Int) ∧ OwnRows wr w2.heap.size o j (rows9 zs j) ∧ Below w2.heap.size w2 wr) (fun _ vi _ => 60 - (intOf vi).toNat)
  case atStart => exact ⟨0, by omega, by omega, rfl, by simpa [rows9] using or0, hb0⟩
  case round =>
    clear or0 hb0
    obtain ⟨j, hj, hj6, rfl, orr, hb⟩ := hrel
    by_cases hlt : j < nk ∧ j < 60
    · obtain ⟨hlt, hl6⟩ := hlt
      have hji : (j : Int) < (nk : Int) := by omega
      have hj60 : (j : Int) < 60 := by omega
      have w1' : IntKind.i64.wrap ((j : Int) + 1) = ((j + 1 : Nat) : Int) := by rw [IntKind.wrap_i64]; omega
      obtain ⟨b, off, rfl, hc⟩ := IV.at hz2 j hlt
      have hc := keepc hc hb
      have HS := Lib.hid (rows9_snoc zs j)
      obtain ⟨r9, hr9⟩ : ∃ r9, rows9 zs j = r9 := ⟨_, rfl⟩
      rw [hr9] at orr HS
      clear hr9
      obtain ⟨z, hze⟩ : ∃ z, zs.getD j 0 = z := ⟨_, rfl⟩
      have HZ := Lib.hid hze
      rw [hze] at hc
      clear hze
      have ob := OS.lit (k := 2) wr wr.heap.size (Nat.le_refl _) [.int .i64 z, .string ⟨#[]⟩, .int .i64 (j : Int), .string ⟨#[]⟩] 2 46 rfl (by simp [Value.oneCell']) (show (2 : Nat) ≤ maxLen by unfold maxLen; decide) _ rfl
      have ro : RO (wr.alloc (.cells #[.int .i64 z, .string ⟨#[]⟩, .int .i64 (j : Int), .string ⟨#[]⟩] 46)) u5.ownBlock (.slice (some ⟨wr.heap.size, 0, none⟩) 2 2) (row9 zs j) := by
        refine RO.own (n := 2) (base := wr.heap.size) ?_ (fun b hb => orr.lt b hb)
        show OS 2 _ _ _ 2 (vcells [(zs.getD j 0, ⟨#[]⟩), ((j : Int), ⟨#[]⟩)])
        rw [HZ.out]; exact ob
      have orr2 := orr.below (Joins.below_alloc1 wr (.cells #[.int .i64 z, .string ⟨#[]⟩, .int .i64 (j : Int), .string ⟨#[]⟩] 46))
      have hb2 := hb.alloc hb.size (.cells #[.int .i64 z, .string ⟨#[]⟩, .int .i64 (j : Int), .string ⟨#[]⟩] 46)
      have hsz := hb2.size
      obtain ⟨cs, ocs, hlr, hro⟩ := orr2
      have ho6 := ocs.alloc (.cells #[.slice (some ⟨wr.heap.size, 0, none⟩) 2 2] 27)
      have hcl : cs.length = j := by have := ocs.1; omega
      have hsv := SV.lit' (k := 1) (wr.alloc (.cells #[.int .i64 z, .string ⟨#[]⟩, .int .i64 (j : Int), .string ⟨#[]⟩] 46)) [.slice (some ⟨wr.heap.size, 0, none⟩) 2 2] 1 27 rfl (by simp [Value.oneCell']) (wr.heap.size + 1) (by simp)
      go_wp2_with (refine append_os2 el_rows rfl (.tmp 23) (.tmp 32) rfl w2.heap.size u5 j _ rfl ho6 _ 1 1 [.slice (some ⟨wr.heap.size, 0, none⟩) 2 2] rfl hsv (by omega) (by omega) (by rw [heap_alloc]; omega) ?_; intro v6 w6 ho7 hb6 hk6 hst6)
      have hba := Joins.below_alloc1 (wr.alloc (.cells #[.int .i64 z, .string ⟨#[]⟩, .int .i64 (j : Int), .string ⟨#[]⟩] 46)) (.cells #[.slice (some ⟨wr.heap.size, 0, none⟩) 2 2] 27)
      have or6 := OwnRows.snoc (v := u5) ho7 hlr hcl (fun i hi => (hro i hi).below hba) (ro.below hba) hk6 hst6
      have hb7 := (hb2.alloc hsz (.cells #[.slice (some ⟨wr.heap.size, 0, none⟩) 2 2] 27)).trans hb6
      rw [← HS.out] at or6
      clear ho6 ho7 hb6 hk6 hst6 hba ro hro ocs hlr hcl cs hb2 hsv ob orr hc hb
      go_wp2_with fail
      go_roundw
      case rel => exact ⟨j + 1, by omega, by omega, by go_num, or6, hb7⟩
      case measure => simp [intOf]; omega
    · obtain ⟨wv, hwv⟩ : ∃ wv : World, wv = wr := ⟨_, rfl⟩
      rw [← hwv] at orr hb ⊢
      clear hwv
      go_upto_region 5 with fail
      go_cut [20] (fun v wx => v = .bool false ∧ wx = wv)
      case first =>
        by_cases hjn : j < nk
        · have hji : (j : Int) < (nk : Int) := by omega
          have hj60 : ¬ (j : Int) < 60 := by omega
          go_wp2_with fail
          go_meet
          exact ⟨rfl, rfl⟩
        · have hji : ¬ (j : Int) < (nk : Int) := by omega
          go_wp2_with fail
          go_meet
          exact ⟨rfl, rfl⟩
      case rest =>
      obtain ⟨rfl, hwc⟩ := hcut
      rw [← hwc] at orr hb
      clear hwc
      generalize wc = wr at *
      obtain ⟨aL, cL, rfl, rvL⟩ := orr.rvs
      have hbw3 := hbw.trans (hb.mono hbw.size)
      have iv3 := SV.below iv1 hb
      have sx3 := sx.below hb
      have hz3 := SV.below hz2 hb
      clear orr hb hbw iv1 sx hz2
      have HST := Lib.hid (stb9 (zs := zs) (j := j) hzr (by omega))
      have HFR : Hid (∀ v ∈ rows9 zs j, FR [1, 1] v) := fun v hv => by
        obtain ⟨t, ht, rfl⟩ := List.mem_map.1 hv
        exact row9_fr (rgs_at hzr t) (by have := List.mem_range.1 ht; omega)
      obtain ⟨c0, c1, c2, c3⟩ := id sx3
      go_wp2_with fail
      clear c0 c1 c2 c3 sx3
      refine (osort_any (some ⟨bs, 0, none⟩) 2 2 [1, 1] 1 1 4 aL j cL (rows9 zs j) wr iv3 (show (2 : Nat) ≤ maxLen by unfold maxLen; decide) (show (1 : Nat) ≤ maxLen by unfold maxLen; decide) ty9 rvL (by omega) HFR.out).mono ?_
      rintro e w6 ⟨gs, rfl, rv6, -, hb6⟩
      have hz6 := SV.below hz3 hb6
      have hw6 := Below.then hbw3 hb6
      clear iv3 hz3 rvL hbw3 hb6
      generalize sortA (cN [1, 1] 1) (rows9 zs j) = l at *
      have hll := Lib.hid rv6.1
      go_wp2_with fail
      go_loopw [8] (fun vi wx => ∃ i : Nat, vi = .int .i64 (i : Int) ∧ i ≤ j ∧ Below w6.heap.size w6 wx) (fun vi _ => j - (intOf vi).toNat)
      case atStart => exact ⟨0, rfl, by omega, Below.refl _ _⟩
      case round =>
        obtain ⟨i, rfl, hi, hbi⟩ := hrel
        by_cases hij : i < j
        · have hii : (i : Int) < (j : Int) := by omega
          have w2' : IntKind.i64.wrap ((i : Int) + 1) = ((i + 1 : Nat) : Int) := by rw [IntKind.wrap_i64]; omega
          obtain ⟨b1, o1, A1, L1, C1, e1, hc, hL1, hv1⟩ := rv6.at i hij
          cases e1
          rw [Nat.zero_add] at hc
          obtain ⟨t, ht, het⟩ := HST.out.one i (by rw [hll.out]; exact hij)
          have HET := Lib.hid het
          rw [het] at hv1
          obtain rfl : 2 = L1 := WV.len hv1
          obtain ⟨b2, o2, rfl, hd0, -⟩ := WV.at hv1 0 (by omega)
          obtain ⟨_, _, e2, hd1, -⟩ := WV.at hv1 1 (by omega)
          cases e2
          obtain ⟨b3, o3, e3, hk⟩ := IV.at hz6 t (by omega)
          have hc := keepc hc hbi
          have hd0 := keepc hd0 hbi
          have hd1 := keepc hd1 hbi
          have hk := keepc hk hbi
          subst e3
          rw [Nat.zero_mul, Nat.add_zero] at hd0
          rw [Nat.one_mul] at hd1
          have hd0 : wr.cell? ⟨b2, o2, none⟩ = some (.int .i64 (zs.getD t 0)) := hd0
          have hd1 : wr.cell? ⟨b2, o2 + 2, none⟩ = some (.int .i64 (t : Int)) := hd1
          have htj : (t : Int) < (j : Int) := by omega
          have htn : t < nk := by omega
          have g1 : ¬ (t : Int) < 0 := by omega
          have g2 : ¬ (j : Int) ≤ (t : Int) := by omega
          obtain ⟨z, hze⟩ : ∃ z, zs.getD t 0 = z := ⟨_, rfl⟩
          have HZ := Lib.hid hze
          rw [hze] at hd0 hk
          clear hze hv1 het
          go_wp2_with fail
          refine wp_region_noPanic ?_
          refine region_g 48 (Ext (World.drew _)) (by kernel_rfl) (Ext.refl _) (fun hS => ?_)
          refine take_w (i := 0) (v := ?_) (some 48) rfl (by kernel_rfl) rfl (fun _ _ _ h => h) (Or.inl ⟨by rfl, ?_⟩) hS ?_
          rotate_left
          · (intro wq hq; go_simp); first | done | with_reducible rfl
          try simp only [Act.put, List.setIfInBounds_toArray, List.set_cons_zero, List.set_cons_succ]
          replace hS := Till.list 0 hS
          refine take_w (i := 1) (v := ?_) (some 49) rfl (by kernel_rfl) rfl (fun _ _ _ h => h) (Or.inl ⟨by rfl, ?_⟩) hS ?_
          rotate_left
          · (intro wq hq; go_simp); first | done | with_reducible rfl
          try simp only [Act.put, List.setIfInBounds_toArray, List.set_cons_zero, List.set_cons_succ]
          replace hS := Till.list 1 hS
          refine take_w (i := 2) (v := ?_) (some 50) rfl (by kernel_rfl) rfl (fun _ _ _ h => h) (Or.inl ⟨by rfl, ?_⟩) hS ?_
          rotate_left
          · (intro wq hq; go_simp); first | done | with_reducible rfl
          try simp only [Act.put, List.setIfInBounds_toArray, List.set_cons_zero, List.set_cons_succ]
          replace hS := Till.list 2 hS
          refine take_n (i := 3) (v := ?_) (some 51) rfl (by kernel_rfl) rfl (fun _ _ _ h => h) (Or.inl ⟨by rfl, ?_⟩) hS ?_
          rotate_left
          · (intro wq hq; have q0 := hq _ _ _ hc; have q1 := hq _ _ _ hd0; have q2 := hq _ _ _ hd1; have q3 := hq _ _ _ hk; go_simp); first | done | with_reducible rfl
          try simp only [Act.put, List.setIfInBounds_toArray, List.set_cons_zero, List.set_cons_succ]
          replace hS := Till.list 3 hS
          refine take_w (i := 4) (v := ?_) (some 52) rfl (by kernel_rfl) rfl (fun _ _ _ h => h) (Or.inl ⟨by rfl, ?_⟩) hS ?_
          rotate_left
          · (intro wq hq; go_simp); first | done | with_reducible rfl
          try simp only [Act.put, List.setIfInBounds_toArray, List.set_cons_zero, List.set_cons_succ]
          replace hS := Till.list 4 hS
          refine take_w (i := 5) (v := ?_) (some 53) rfl (by kernel_rfl) rfl (fun _ _ _ h => h) (Or.inl ⟨by rfl, ?_⟩) hS ?_
          rotate_left
          · (intro wq hq; go_simp); first | done | with_reducible rfl
          try simp only [Act.put, List.setIfInBounds_toArray, List.set_cons_zero, List.set_cons_succ]
          replace hS := Till.list 5 hS
          refine take_w (i := 6) (v := ?_) (some 54) rfl (by kernel_rfl) rfl (fun _ _ _ h => h) (Or.inl ⟨by rfl, ?_⟩) hS ?_
          rotate_left
          · (intro wq hq; go_simp); first | done | with_reducible rfl
          try simp only [Act.put, List.setIfInBounds_toArray, List.set_cons_zero, List.set_cons_succ]
          replace hS := Till.list 6 hS
          refine take_w (i := 7) (v := ?_) (some 55) rfl (by kernel_rfl) rfl (fun _ _ _ h => h) (Or.inl ⟨by rfl, ?_⟩) hS ?_
          rotate_left
          · (intro wq hq; go_simp); first | done | with_reducible rfl
          try simp only [Act.put, List.setIfInBounds_toArray, List.set_cons_zero, List.set_cons_succ]
          replace hS := Till.list 7 hS
          refine take_w (i := 8) (v := ?_) (some 56) rfl (by kernel_rfl) rfl (fun _ _ _ h => h) (Or.inl ⟨by rfl, ?_⟩) hS ?_
          rotate_left
          · (intro wq hq; go_simp); first | done | with_reducible rfl
          try simp only [Act.put, List.setIfInBounds_toArray, List.set_cons_zero, List.set_cons_succ]
          replace hS := Till.list 8 hS
          refine take_w (i := 9) (v := ?_) (some 57) rfl (by kernel_rfl) rfl (fun _ _ _ h => h) (Or.inl ⟨by rfl, ?_⟩) hS ?_
          rotate_left
          · (intro wq hq; go_simp); first | done | with_reducible rfl
          try simp only [Act.put, List.setIfInBounds_toArray, List.set_cons_zero, List.set_cons_succ]
          replace hS := Till.list 9 hS
          refine take_n (i := 10) (v := ?_) (some 58) rfl (by kernel_rfl) rfl (fun _ _ _ h => h) (Or.inl ⟨by rfl, ?_⟩) hS ?_
          rotate_left
          · (intro wq hq; have q0 := hq _ _ _ hc; have q1 := hq _ _ _ hd0; have q2 := hq _ _ _ hd1; have q3 := hq _ _ _ hk; go_simp); first | done | with_reducible rfl
          try simp only [Act.put, List.setIfInBounds_toArray, List.set_cons_zero, List.set_cons_succ]
          replace hS := Till.list 10 hS
          refine take_w (i := 11) (v := ?_) (some 59) rfl (by kernel_rfl) rfl (fun _ _ _ h => h) (Or.inl ⟨by rfl, ?_⟩) hS ?_
          rotate_left
          · (intro wq hq; go_simp); first | done | with_reducible rfl
          try simp only [Act.put, List.setIfInBounds_toArray, List.set_cons_zero, List.set_cons_succ]
          replace hS := Till.list 11 hS
          refine take_w (i := 12) (v := ?_) (some 60) rfl (by kernel_rfl) rfl (fun _ _ _ h => h) (Or.inl ⟨by rfl, ?_⟩) hS ?_
          rotate_left
          · (intro wq hq; go_simp); first | done | with_reducible rfl
          try simp only [Act.put, List.setIfInBounds_toArray, List.set_cons_zero, List.set_cons_succ]
          replace hS := Till.list 12 hS
          refine take_n (i := 13) (v := ?_) (some 61) rfl (by kernel_rfl) rfl (fun _ _ _ h => h) (Or.inl ⟨by rfl, ?_⟩) hS ?_
          rotate_left
          · (intro wq hq; have q0 := hq _ _ _ hc; have q1 := hq _ _ _ hd0; have q2 := hq _ _ _ hd1; have q3 := hq _ _ _ hk; go_simp); first | done | with_reducible rfl
          try simp only [Act.put, List.setIfInBounds_toArray, List.set_cons_zero, List.set_cons_succ]
          replace hS := Till.list 13 hS
          refine take_w (i := 14) (v := ?_) (some 62) rfl (by kernel_rfl) rfl (fun _ _ _ h => h) (Or.inl ⟨by rfl, ?_⟩) hS ?_
          rotate_left
          · (intro wq hq; go_simp); first | done | with_reducible rfl
          try simp only [Act.put, List.setIfInBounds_toArray, List.set_cons_zero, List.set_cons_succ]
          replace hS := Till.list 14 hS
          refine take_w (i := 15) (v := ?_) (some 63) rfl (by kernel_rfl) rfl (fun _ _ _ h => h) (Or.inl ⟨by rfl, ?_⟩) hS ?_
          rotate_left
          · (intro wq hq; go_simp); first | done | with_reducible rfl
          try simp only [Act.put, List.setIfInBounds_toArray, List.set_cons_zero, List.set_cons_succ]
          replace hS := Till.list 15 hS
          refine take_w (i := 16) (v := ?_) (some 64) rfl (by kernel_rfl) rfl (fun _ _ _ h => h) (Or.inl ⟨by rfl, ?_⟩) hS ?_
          rotate_left
          · (intro wq hq; go_simp); first | done | with_reducible rfl
          try simp only [Act.put, List.setIfInBounds_toArray, List.set_cons_zero, List.set_cons_succ]
          replace hS := Till.list 16 hS
          refine take_w (i := 17) (v := ?_) (some 65) rfl (by kernel_rfl) rfl (fun _ _ _ h => h) (Or.inl ⟨by rfl, ?_⟩) hS ?_
          rotate_left
          · (intro wq hq; go_simp); first | done | with_reducible rfl
          try simp only [Act.put, List.setIfInBounds_toArray, List.set_cons_zero, List.set_cons_succ]
          replace hS := Till.list 17 hS
          refine take_w (i := 18) (v := ?_) (some 66) rfl (by kernel_rfl) rfl (fun _ _ _ h => h) (Or.inl ⟨by rfl, ?_⟩) hS ?_
          rotate_left
          · (intro wq hq; go_simp); first | done | with_reducible rfl
          try simp only [Act.put, List.setIfInBounds_toArray, List.set_cons_zero, List.set_cons_succ]
          replace hS := Till.list 18 hS
          refine take_w (i := 24) (v := ?_) (some 72) rfl (by kernel_rfl) rfl (fun _ _ _ h => h) (Or.inl ⟨by rfl, ?_⟩) hS ?_
          rotate_left
          · (intro wq hq; go_simp); first | done | with_reducible rfl
          try simp only [Act.put, List.setIfInBounds_toArray, List.set_cons_zero, List.set_cons_succ]
          replace hS := Till.list 24 hS
          refine take_w (i := 19) (v := ?_) (some 67) rfl (by kernel_rfl) rfl (fun _ _ _ h => h) (Or.inl ⟨by rfl, ?_⟩) hS ?_
          rotate_left
          · (intro wq hq; go_simp); first | done | with_reducible rfl
          try simp only [Act.put, List.setIfInBounds_toArray, List.set_cons_zero, List.set_cons_succ]
          replace hS := Till.list 19 hS
          refine take_w (i := 25) (v := ?_) (some 73) rfl (by kernel_rfl) rfl (fun _ _ _ h => h) (Or.inl ⟨by rfl, ?_⟩) hS ?_
          rotate_left
          · (intro wq hq; go_simp); first | done | with_reducible rfl
          try simp only [Act.put, List.setIfInBounds_toArray, List.set_cons_zero, List.set_cons_succ]
          replace hS := Till.list 25 hS
          refine take_n (i := 20) (v := ?_) (some 68) rfl (by kernel_rfl) rfl (fun _ _ _ h => h) (Or.inl ⟨by rfl, ?_⟩) hS ?_
          rotate_left
          · (intro wq hq; have q0 := hq _ _ _ hc; have q1 := hq _ _ _ hd0; have q2 := hq _ _ _ hd1; have q3 := hq _ _ _ hk; go_simp); first | done | with_reducible rfl
          try simp only [Act.put, List.setIfInBounds_toArray, List.set_cons_zero, List.set_cons_succ]
          replace hS := Till.list 20 hS
          refine take_w (i := 21) (v := ?_) (some 69) rfl (by kernel_rfl) rfl (fun _ _ _ h => h) (Or.inl ⟨by rfl, ?_⟩) hS ?_
          rotate_left
          · (intro wq hq; go_simp); first | done | with_reducible rfl
          try simp only [Act.put, List.setIfInBounds_toArray, List.set_cons_zero, List.set_cons_succ]
          replace hS := Till.list 21 hS
          refine take_w (i := 22) (v := ?_) (some 70) rfl (by kernel_rfl) rfl (fun _ _ _ h => h) (Or.inl ⟨by rfl, ?_⟩) hS ?_
          rotate_left
          · (intro wq hq; go_simp); first | done | with_reducible rfl
          try simp only [Act.put, List.setIfInBounds_toArray, List.set_cons_zero, List.set_cons_succ]
          replace hS := Till.list 22 hS
          refine take_n (i := 23) (v := ?_) (some 71) rfl (by kernel_rfl) rfl (fun _ _ _ h => h) (Or.inl ⟨by rfl, ?_⟩) hS ?_
          rotate_left
          · (intro wq hq; have q0 := hq _ _ _ hc; have q1 := hq _ _ _ hd0; have q2 := hq _ _ _ hd1; have q3 := hq _ _ _ hk; go_simp); first | done | with_reducible rfl
          try simp only [Act.put, List.setIfInBounds_toArray, List.set_cons_zero, List.set_cons_succ]
          replace hS := Till.list 23 hS
          refine take_n (i := 26) (v := .bool false) (some 74) rfl (by kernel_rfl) rfl (fun _ _ _ h => h) (Or.inl ⟨by rfl, ?_⟩) hS ?_
          · (intro wq hq; (go_simp <;> simp <;> omega))
          try simp only [Act.put, List.setIfInBounds_toArray, List.set_cons_zero, List.set_cons_succ]
          replace hS := Till.list 26 hS
          refine take_w (i := 27) (v := ?_) (some 75) rfl (by kernel_rfl) rfl (fun _ _ _ h => h) (Or.inl ⟨by rfl, ?_⟩) hS ?_
          rotate_left
          · (intro wq hq; go_simp); first | done | with_reducible rfl
          try simp only [Act.put, List.setIfInBounds_toArray, List.set_cons_zero, List.set_cons_succ]
          replace hS := Till.list 27 hS
          refine take_w (i := 28) (v := ?_) (some 76) rfl (by kernel_rfl) rfl (fun _ _ _ h => h) (Or.inl ⟨by rfl, ?_⟩) hS ?_
          rotate_left
          · (intro wq hq; go_simp); first | done | with_reducible rfl
          try simp only [Act.put, List.setIfInBounds_toArray, List.set_cons_zero, List.set_cons_succ]
          replace hS := Till.list 28 hS
          refine take_w (i := 29) (v := ?_) (some 77) rfl (by kernel_rfl) rfl (fun _ _ _ h => h) (Or.inl ⟨by rfl, ?_⟩) hS ?_
          rotate_left
          · (intro wq hq; go_simp); first | done | with_reducible rfl
          try simp only [Act.put, List.setIfInBounds_toArray, List.set_cons_zero, List.set_cons_succ]
          replace hS := Till.list 29 hS
          refine take_w (i := 30) (v := ?_) (some 78) rfl (by kernel_rfl) rfl (fun _ _ _ h => h) (Or.inl ⟨by rfl, ?_⟩) hS ?_
          rotate_left
          · (intro wq hq; go_simp); first | done | with_reducible rfl
          try simp only [Act.put, List.setIfInBounds_toArray, List.set_cons_zero, List.set_cons_succ]
          replace hS := Till.list 30 hS
          refine take_w (i := 31) (v := ?_) (some 79) rfl (by kernel_rfl) rfl (fun _ _ _ h => h) (Or.inl ⟨by rfl, ?_⟩) hS ?_
          rotate_left
          · (intro wq hq; go_simp); first | done | with_reducible rfl
          try simp only [Act.put, List.setIfInBounds_toArray, List.set_cons_zero, List.set_cons_succ]
          replace hS := Till.list 31 hS
          refine take_w (i := 39) (v := ?_) (some 87) rfl (by kernel_rfl) rfl (fun _ _ _ h => h) (Or.inl ⟨by rfl, ?_⟩) hS ?_
          rotate_left
          · (intro wq hq; go_simp); first | done | with_reducible rfl
          try simp only [Act.put, List.setIfInBounds_toArray, List.set_cons_zero, List.set_cons_succ]
          replace hS := Till.list 39 hS
          refine take_w (i := 40) (v := ?_) (some 88) rfl (by kernel_rfl) rfl (fun _ _ _ h => h) (Or.inl ⟨by rfl, ?_⟩) hS ?_
          rotate_left
          · (intro wq hq; go_simp); first | done | with_reducible rfl
          try simp only [Act.put, List.setIfInBounds_toArray, List.set_cons_zero, List.set_cons_succ]
          replace hS := Till.list 40 hS
          refine take_w (i := 32) (v := ?_) (some 80) rfl (by kernel_rfl) rfl (fun _ _ _ h => h) (Or.inl ⟨by rfl, ?_⟩) hS ?_
          rotate_left
          · (intro wq hq; go_simp); first | done | with_reducible rfl
          try simp only [Act.put, List.setIfInBounds_toArray, List.set_cons_zero, List.set_cons_succ]
          replace hS := Till.list 32 hS
          refine take_w (i := 41) (v := ?_) (some 89) rfl (by kernel_rfl) rfl (fun _ _ _ h => h) (Or.inl ⟨by rfl, ?_⟩) hS ?_
          rotate_left
          · (intro wq hq; go_simp); first | done | with_reducible rfl
          try simp only [Act.put, List.setIfInBounds_toArray, List.set_cons_zero, List.set_cons_succ]
          replace hS := Till.list 41 hS
          refine take_n (i := 33) (v := ?_) (some 81) rfl (by kernel_rfl) rfl (fun _ _ _ h => h) (Or.inl ⟨by rfl, ?_⟩) hS ?_
          rotate_left
          · (intro wq hq; have q0 := hq _ _ _ hc; have q1 := hq _ _ _ hd0; have q2 := hq _ _ _ hd1; have q3 := hq _ _ _ hk; go_simp); first | done | with_reducible rfl
          try simp only [Act.put, List.setIfInBounds_toArray, List.set_cons_zero, List.set_cons_succ]
          replace hS := Till.list 33 hS
          refine take_n (i := 42) (v := ?_) (some 90) rfl (by kernel_rfl) rfl (fun _ _ _ h => h) (Or.inl ⟨by rfl, ?_⟩) hS ?_
          rotate_left
          · (intro wq hq; have q0 := hq _ _ _ hc; have q1 := hq _ _ _ hd0; have q2 := hq _ _ _ hd1; have q3 := hq _ _ _ hk; go_simp); first | done | with_reducible rfl
          try simp only [Act.put, List.setIfInBounds_toArray, List.set_cons_zero, List.set_cons_succ]
          replace hS := Till.list 42 hS
          refine take_w (i := 34) (v := ?_) (some 82) rfl (by kernel_rfl) rfl (fun _ _ _ h => h) (Or.inl ⟨by rfl, ?_⟩) hS ?_
          rotate_left
          · (intro wq hq; go_simp); first | done | with_reducible rfl
          try simp only [Act.put, List.setIfInBounds_toArray, List.set_cons_zero, List.set_cons_succ]
          replace hS := Till.list 34 hS
          refine take_w (i := 43) (v := ?_) (some 91) rfl (by kernel_rfl) rfl (fun _ _ _ h => h) (Or.inl ⟨by rfl, ?_⟩) hS ?_
          rotate_left
          · (intro wq hq; go_simp); first | done | with_reducible rfl
          try simp only [Act.put, List.setIfInBounds_toArray, List.set_cons_zero, List.set_cons_succ]
          replace hS := Till.list 43 hS
          refine take_w (i := 35) (v := ?_) (some 83) rfl (by kernel_rfl) rfl (fun _ _ _ h => h) (Or.inl ⟨by rfl, ?_⟩) hS ?_
          rotate_left
          · (intro wq hq; go_simp); first | done | with_reducible rfl
          try simp only [Act.put, List.setIfInBounds_toArray, List.set_cons_zero, List.set_cons_succ]
          replace hS := Till.list 35 hS
          refine take_w (i := 44) (v := ?_) (some 92) rfl (by kernel_rfl) rfl (fun _ _ _ h => h) (Or.inl ⟨by rfl, ?_⟩) hS ?_
          rotate_left
          · (intro wq hq; go_simp); first | done | with_reducible rfl
          try simp only [Act.put, List.setIfInBounds_toArray, List.set_cons_zero, List.set_cons_succ]
          replace hS := Till.list 44 hS
          refine take_n (i := 36) (v := ?_) (some 84) rfl (by kernel_rfl) rfl (fun _ _ _ h => h) (Or.inl ⟨by rfl, ?_⟩) hS ?_
          rotate_left
          · (intro wq hq; have q0 := hq _ _ _ hc; have q1 := hq _ _ _ hd0; have q2 := hq _ _ _ hd1; have q3 := hq _ _ _ hk; go_simp); first | done | with_reducible rfl
          try simp only [Act.put, List.setIfInBounds_toArray, List.set_cons_zero, List.set_cons_succ]
          replace hS := Till.list 36 hS
          refine take_n (i := 45) (v := ?_) (some 93) rfl (by kernel_rfl) rfl (fun _ _ _ h => h) (Or.inl ⟨by rfl, ?_⟩) hS ?_
          rotate_left
          · (intro wq hq; have q0 := hq _ _ _ hc; have q1 := hq _ _ _ hd0; have q2 := hq _ _ _ hd1; have q3 := hq _ _ _ hk; go_simp); first | done | with_reducible rfl
          try simp only [Act.put, List.setIfInBounds_toArray, List.set_cons_zero, List.set_cons_succ]
          replace hS := Till.list 45 hS
          refine take_w (i := 37) (v := ?_) (some 85) rfl (by kernel_rfl) rfl (fun _ _ _ h => h) (Or.inl ⟨by rfl, ?_⟩) hS ?_
          rotate_left
          · (intro wq hq; go_simp); first | done | with_reducible rfl
          try simp only [Act.put, List.setIfInBounds_toArray, List.set_cons_zero, List.set_cons_succ]
          replace hS := Till.list 37 hS
          refine take_n (i := 38) (v := ?_) (some 86) rfl (by kernel_rfl) rfl (fun _ _ _ h => h) (Or.inl ⟨by rfl, ?_⟩) hS ?_
          rotate_left
          · (intro wq hq; have q0 := hq _ _ _ hc; have q1 := hq _ _ _ hd0; have q2 := hq _ _ _ hd1; have q3 := hq _ _ _ hk; go_simp); first | done | with_reducible rfl
          try simp only [Act.put, List.setIfInBounds_toArray, List.set_cons_zero, List.set_cons_succ]
          replace hS := Till.list 38 hS
          refine take_w (i := 46) (v := ?_) (some 94) rfl (by kernel_rfl) rfl (fun _ _ _ h => h) (Or.inl ⟨by rfl, ?_⟩) hS ?_
          rotate_left
          · (intro wq hq; go_simp); first | done | with_reducible rfl
          try simp only [Act.put, List.setIfInBounds_toArray, List.set_cons_zero, List.set_cons_succ]
          replace hS := Till.list 46 hS
          refine take_w (i := 47) (v := ?_) (some 95) rfl (by kernel_rfl) rfl (fun _ _ _ h => h) (Or.inl ⟨by rfl, ?_⟩) hS ?_
          rotate_left
          · (intro wq hq; go_simp); first | done | with_reducible rfl
          try simp only [Act.put, List.setIfInBounds_toArray, List.set_cons_zero, List.set_cons_succ]
          replace hS := Till.list 47 hS
          refine done_g (by kernel_rfl) (NoPanic.normal ?_) _
          clear hS
          clear hk htn htj g1 g2 hc hd0 hd1
          have hbi2 := hbi.drew
          generalize wr.drew = w7 at *
          clear hbi
          by_cases h0 : i = 0
          · subst h0
            go_wp2_with fail
            refine wp_region_noPanic ?_
            refine region_g 56 (Ext (World.drew _)) (by kernel_rfl) (Ext.refl _) (fun hS => ?_)
            refine take_w (i := 0) (v := ?_) (some 96) rfl (by kernel_rfl) rfl (fun _ _ _ h => h) (Or.inl ⟨by rfl, ?_⟩) hS ?_
            rotate_left
            · (intro wq hq; go_simp); first | done | with_reducible rfl
            try simp only [Act.put, List.setIfInBounds_toArray, List.set_cons_zero, List.set_cons_succ]
            replace hS := Till.list 0 hS
            refine take_w (i := 1) (v := ?_) (some 97) rfl (by kernel_rfl) rfl (fun _ _ _ h => h) (Or.inl ⟨by rfl, ?_⟩) hS ?_
            rotate_left
            · (intro wq hq; go_simp); first | done | with_reducible rfl
            try simp only [Act.put, List.setIfInBounds_toArray, List.set_cons_zero, List.set_cons_succ]
            replace hS := Till.list 1 hS
            refine take_w (i := 2) (v := ?_) (some 98) rfl (by kernel_rfl) rfl (fun _ _ _ h => h) (Or.inl ⟨by rfl, ?_⟩) hS ?_
            rotate_left
            · (intro wq hq; go_simp); first | done | with_reducible rfl
            try simp only [Act.put, List.setIfInBounds_toArray, List.set_cons_zero, List.set_cons_succ]
            replace hS := Till.list 2 hS
            refine take_w (i := 3) (v := undef) (some 99) rfl (by kernel_rfl) rfl (fun _ _ _ h => h) (Or.inr ⟨by rfl, rfl⟩) hS ?_
            try simp only [Act.put, List.setIfInBounds_toArray, List.set_cons_zero, List.set_cons_succ]
            replace hS := Till.list 3 hS
            refine take_w (i := 4) (v := undef) (some 100) rfl (by kernel_rfl) rfl (fun _ _ _ h => h) (Or.inr ⟨by rfl, rfl⟩) hS ?_
            try simp only [Act.put, List.setIfInBounds_toArray, List.set_cons_zero, List.set_cons_succ]
            replace hS := Till.list 4 hS
            refine take_w (i := 11) (v := undef) (some 107) rfl (by kernel_rfl) rfl (fun _ _ _ h => h) (Or.inr ⟨by rfl, rfl⟩) hS ?_
            try simp only [Act.put, List.setIfInBounds_toArray, List.set_cons_zero, List.set_cons_succ]
            replace hS := Till.list 11 hS
            refine take_w (i := 12) (v := undef) (some 108) rfl (by kernel_rfl) rfl (fun _ _ _ h => h) (Or.inr ⟨by rfl, rfl⟩) hS ?_
            try simp only [Act.put, List.setIfInBounds_toArray, List.set_cons_zero, List.set_cons_succ]
            replace hS := Till.list 12 hS
            refine take_w (i := 5) (v := undef) (some 101) rfl (by kernel_rfl) rfl (fun _ _ _ h => h) (Or.inr ⟨by rfl, rfl⟩) hS ?_
            try simp only [Act.put, List.setIfInBounds_toArray, List.set_cons_zero, List.set_cons_succ]
            replace hS := Till.list 5 hS
            refine take_w (i := 13) (v := undef) (some 109) rfl (by kernel_rfl) rfl (fun _ _ _ h => h) (Or.inr ⟨by rfl, rfl⟩) hS ?_
            try simp only [Act.put, List.setIfInBounds_toArray, List.set_cons_zero, List.set_cons_succ]
            replace hS := Till.list 13 hS
            refine take_w (i := 6) (v := undef) (some 102) rfl (by kernel_rfl) rfl (fun _ _ _ h => h) (Or.inr ⟨by rfl, rfl⟩) hS ?_
            try simp only [Act.put, List.setIfInBounds_toArray, List.set_cons_zero, List.set_cons_succ]
            replace hS := Till.list 6 hS
            refine take_w (i := 14) (v := undef) (some 110) rfl (by kernel_rfl) rfl (fun _ _ _ h => h) (Or.inr ⟨by rfl, rfl⟩) hS ?_
            try simp only [Act.put, List.setIfInBounds_toArray, List.set_cons_zero, List.set_cons_succ]
            replace hS := Till.list 14 hS
            refine take_w (i := 7) (v := undef) (some 103) rfl (by kernel_rfl) rfl (fun _ _ _ h => h) (Or.inr ⟨by rfl, rfl⟩) hS ?_
            try simp only [Act.put, List.setIfInBounds_toArray, List.set_cons_zero, List.set_cons_succ]
            replace hS := Till.list 7 hS
            refine take_w (i := 15) (v := undef) (some 111) rfl (by kernel_rfl) rfl (fun _ _ _ h => h) (Or.inr ⟨by rfl, rfl⟩) hS ?_
            try simp only [Act.put, List.setIfInBounds_toArray, List.set_cons_zero, List.set_cons_succ]
            replace hS := Till.list 15 hS
            refine take_w (i := 8) (v := undef) (some 104) rfl (by kernel_rfl) rfl (fun _ _ _ h => h) (Or.inr ⟨by rfl, rfl⟩) hS ?_
            try simp only [Act.put, List.setIfInBounds_toArray, List.set_cons_zero, List.set_cons_succ]
            replace hS := Till.list 8 hS
            refine take_w (i := 16) (v := undef) (some 112) rfl (by kernel_rfl) rfl (fun _ _ _ h => h) (Or.inr ⟨by rfl, rfl⟩) hS ?_
            try simp only [Act.put, List.setIfInBounds_toArray, List.set_cons_zero, List.set_cons_succ]
            replace hS := Till.list 16 hS
            refine take_w (i := 9) (v := undef) (some 105) rfl (by kernel_rfl) rfl (fun _ _ _ h => h) (Or.inr ⟨by rfl, rfl⟩) hS ?_
            try simp only [Act.put, List.setIfInBounds_toArray, List.set_cons_zero, List.set_cons_succ]
            replace hS := Till.list 9 hS
            refine take_w (i := 17) (v := undef) (some 113) rfl (by kernel_rfl) rfl (fun _ _ _ h => h) (Or.inr ⟨by rfl, rfl⟩) hS ?_
            try simp only [Act.put, List.setIfInBounds_toArray, List.set_cons_zero, List.set_cons_succ]
            replace hS := Till.list 17 hS
            refine take_w (i := 10) (v := undef) (some 106) rfl (by kernel_rfl) rfl (fun _ _ _ h => h) (Or.inr ⟨by rfl, rfl⟩) hS ?_
            try simp only [Act.put, List.setIfInBounds_toArray, List.set_cons_zero, List.set_cons_succ]
            replace hS := Till.list 10 hS
            refine take_w (i := 18) (v := undef) (some 114) rfl (by kernel_rfl) rfl (fun _ _ _ h => h) (Or.inr ⟨by rfl, rfl⟩) hS ?_
            try simp only [Act.put, List.setIfInBounds_toArray, List.set_cons_zero, List.set_cons_succ]
            replace hS := Till.list 18 hS
            refine take_w (i := 19) (v := undef) (some 115) rfl (by kernel_rfl) rfl (fun _ _ _ h => h) (Or.inr ⟨by rfl, rfl⟩) hS ?_
            try simp only [Act.put, List.setIfInBounds_toArray, List.set_cons_zero, List.set_cons_succ]
            replace hS := Till.list 19 hS
            refine take_w (i := 20) (v := undef) (some 116) rfl (by kernel_rfl) rfl (fun _ _ _ h => h) (Or.inr ⟨by rfl, rfl⟩) hS ?_
            try simp only [Act.put, List.setIfInBounds_toArray, List.set_cons_zero, List.set_cons_succ]
            replace hS := Till.list 20 hS
            refine take_w (i := 21) (v := undef) (some 117) rfl (by kernel_rfl) rfl (fun _ _ _ h => h) (Or.inr ⟨by rfl, rfl⟩) hS ?_
            try simp only [Act.put, List.setIfInBounds_toArray, List.set_cons_zero, List.set_cons_succ]
            replace hS := Till.list 21 hS
            refine take_w (i := 28) (v := undef) (some 124) rfl (by kernel_rfl) rfl (fun _ _ _ h => h) (Or.inr ⟨by rfl, rfl⟩) hS ?_
            try simp only [Act.put, List.setIfInBounds_toArray, List.set_cons_zero, List.set_cons_succ]
            replace hS := Till.list 28 hS
            refine take_w (i := 29) (v := undef) (some 125) rfl (by kernel_rfl) rfl (fun _ _ _ h => h) (Or.inr ⟨by rfl, rfl⟩) hS ?_
            try simp only [Act.put, List.setIfInBounds_toArray, List.set_cons_zero, List.set_cons_succ]
            replace hS := Till.list 29 hS
            refine take_w (i := 22) (v := undef) (some 118) rfl (by kernel_rfl) rfl (fun _ _ _ h => h) (Or.inr ⟨by rfl, rfl⟩) hS ?_
            try simp only [Act.put, List.setIfInBounds_toArray, List.set_cons_zero, List.set_cons_succ]
            replace hS := Till.list 22 hS
            refine take_w (i := 30) (v := undef) (some 126) rfl (by kernel_rfl) rfl (fun _ _ _ h => h) (Or.inr ⟨by rfl, rfl⟩) hS ?_
            try simp only [Act.put, List.setIfInBounds_toArray, List.set_cons_zero, List.set_cons_succ]
            replace hS := Till.list 30 hS
            refine take_w (i := 23) (v := undef) (some 119) rfl (by kernel_rfl) rfl (fun _ _ _ h => h) (Or.inr ⟨by rfl, rfl⟩) hS ?_
            try simp only [Act.put, List.setIfInBounds_toArray, List.set_cons_zero, List.set_cons_succ]
            replace hS := Till.list 23 hS
            refine take_w (i := 31) (v := undef) (some 127) rfl (by kernel_rfl) rfl (fun _ _ _ h => h) (Or.inr ⟨by rfl, rfl⟩) hS ?_
            try simp only [Act.put, List.setIfInBounds_toArray, List.set_cons_zero, List.set_cons_succ]
            replace hS := Till.list 31 hS
            refine take_w (i := 24) (v := undef) (some 120) rfl (by kernel_rfl) rfl (fun _ _ _ h => h) (Or.inr ⟨by rfl, rfl⟩) hS ?_
            try simp only [Act.put, List.setIfInBounds_toArray, List.set_cons_zero, List.set_cons_succ]
            replace hS := Till.list 24 hS
            refine take_w (i := 32) (v := undef) (some 128) rfl (by kernel_rfl) rfl (fun _ _ _ h => h) (Or.inr ⟨by rfl, rfl⟩) hS ?_
            try simp only [Act.put, List.setIfInBounds_toArray, List.set_cons_zero, List.set_cons_succ]
            replace hS := Till.list 32 hS
            refine take_w (i := 25) (v := undef) (some 121) rfl (by kernel_rfl) rfl (fun _ _ _ h => h) (Or.inr ⟨by rfl, rfl⟩) hS ?_
            try simp only [Act.put, List.setIfInBounds_toArray, List.set_cons_zero, List.set_cons_succ]
            replace hS := Till.list 25 hS
            refine take_w (i := 33) (v := undef) (some 129) rfl (by kernel_rfl) rfl (fun _ _ _ h => h) (Or.inr ⟨by rfl, rfl⟩) hS ?_
            try simp only [Act.put, List.setIfInBounds_toArray, List.set_cons_zero, List.set_cons_succ]
            replace hS := Till.list 33 hS
            refine take_w (i := 26) (v := undef) (some 122) rfl (by kernel_rfl) rfl (fun _ _ _ h => h) (Or.inr ⟨by rfl, rfl⟩) hS ?_
            try simp only [Act.put, List.setIfInBounds_toArray, List.set_cons_zero, List.set_cons_succ]
            replace hS := Till.list 26 hS
            refine take_w (i := 34) (v := undef) (some 130) rfl (by kernel_rfl) rfl (fun _ _ _ h => h) (Or.inr ⟨by rfl, rfl⟩) hS ?_
            try simp only [Act.put, List.setIfInBounds_toArray, List.set_cons_zero, List.set_cons_succ]
            replace hS := Till.list 34 hS
            refine take_w (i := 27) (v := undef) (some 123) rfl (by kernel_rfl) rfl (fun _ _ _ h => h) (Or.inr ⟨by rfl, rfl⟩) hS ?_
            try simp only [Act.put, List.setIfInBounds_toArray, List.set_cons_zero, List.set_cons_succ]
            replace hS := Till.list 27 hS
            refine take_w (i := 35) (v := undef) (some 131) rfl (by kernel_rfl) rfl (fun _ _ _ h => h) (Or.inr ⟨by rfl, rfl⟩) hS ?_
            try simp only [Act.put, List.setIfInBounds_toArray, List.set_cons_zero, List.set_cons_succ]
            replace hS := Till.list 35 hS
            refine take_w (i := 36) (v := undef) (some 132) rfl (by kernel_rfl) rfl (fun _ _ _ h => h) (Or.inr ⟨by rfl, rfl⟩) hS ?_
            try simp only [Act.put, List.setIfInBounds_toArray, List.set_cons_zero, List.set_cons_succ]
            replace hS := Till.list 36 hS
            refine take_w (i := 37) (v := undef) (some 133) rfl (by kernel_rfl) rfl (fun _ _ _ h => h) (Or.inr ⟨by rfl, rfl⟩) hS ?_
            try simp only [Act.put, List.setIfInBounds_toArray, List.set_cons_zero, List.set_cons_succ]
            replace hS := Till.list 37 hS
            refine take_w (i := 38) (v := undef) (some 134) rfl (by kernel_rfl) rfl (fun _ _ _ h => h) (Or.inr ⟨by rfl, rfl⟩) hS ?_
            try simp only [Act.put, List.setIfInBounds_toArray, List.set_cons_zero, List.set_cons_succ]
            replace hS := Till.list 38 hS
            refine take_w (i := 45) (v := undef) (some 141) rfl (by kernel_rfl) rfl (fun _ _ _ h => h) (Or.inr ⟨by rfl, rfl⟩) hS ?_
            try simp only [Act.put, List.setIfInBounds_toArray, List.set_cons_zero, List.set_cons_succ]
            replace hS := Till.list 45 hS
            refine take_w (i := 46) (v := undef) (some 142) rfl (by kernel_rfl) rfl (fun _ _ _ h => h) (Or.inr ⟨by rfl, rfl⟩) hS ?_
            try simp only [Act.put, List.setIfInBounds_toArray, List.set_cons_zero, List.set_cons_succ]
            replace hS := Till.list 46 hS
            refine take_w (i := 39) (v := undef) (some 135) rfl (by kernel_rfl) rfl (fun _ _ _ h => h) (Or.inr ⟨by rfl, rfl⟩) hS ?_
            try simp only [Act.put, List.setIfInBounds_toArray, List.set_cons_zero, List.set_cons_succ]
            replace hS := Till.list 39 hS
            refine take_w (i := 47) (v := undef) (some 143) rfl (by kernel_rfl) rfl (fun _ _ _ h => h) (Or.inr ⟨by rfl, rfl⟩) hS ?_
            try simp only [Act.put, List.setIfInBounds_toArray, List.set_cons_zero, List.set_cons_succ]
            replace hS := Till.list 47 hS
            refine take_w (i := 40) (v := undef) (some 136) rfl (by kernel_rfl) rfl (fun _ _ _ h => h) (Or.inr ⟨by rfl, rfl⟩) hS ?_
            try simp only [Act.put, List.setIfInBounds_toArray, List.set_cons_zero, List.set_cons_succ]
            replace hS := Till.list 40 hS
            refine take_w (i := 48) (v := undef) (some 144) rfl (by kernel_rfl) rfl (fun _ _ _ h => h) (Or.inr ⟨by rfl, rfl⟩) hS ?_
            try simp only [Act.put, List.setIfInBounds_toArray, List.set_cons_zero, List.set_cons_succ]
            replace hS := Till.list 48 hS
            refine take_w (i := 41) (v := undef) (some 137) rfl (by kernel_rfl) rfl (fun _ _ _ h => h) (Or.inr ⟨by rfl, rfl⟩) hS ?_
            try simp only [Act.put, List.setIfInBounds_toArray, List.set_cons_zero, List.set_cons_succ]
            replace hS := Till.list 41 hS
            refine take_w (i := 49) (v := undef) (some 145) rfl (by kernel_rfl) rfl (fun _ _ _ h => h) (Or.inr ⟨by rfl, rfl⟩) hS ?_
            try simp only [Act.put, List.setIfInBounds_toArray, List.set_cons_zero, List.set_cons_succ]
            replace hS := Till.list 49 hS
            refine take_w (i := 42) (v := undef) (some 138) rfl (by kernel_rfl) rfl (fun _ _ _ h => h) (Or.inr ⟨by rfl, rfl⟩) hS ?_
            try simp only [Act.put, List.setIfInBounds_toArray, List.set_cons_zero, List.set_cons_succ]
            replace hS := Till.list 42 hS
            refine take_w (i := 50) (v := undef) (some 146) rfl (by kernel_rfl) rfl (fun _ _ _ h => h) (Or.inr ⟨by rfl, rfl⟩) hS ?_
            try simp only [Act.put, List.setIfInBounds_toArray, List.set_cons_zero, List.set_cons_succ]
            replace hS := Till.list 50 hS
            refine take_w (i := 43) (v := undef) (some 139) rfl (by kernel_rfl) rfl (fun _ _ _ h => h) (Or.inr ⟨by rfl, rfl⟩) hS ?_
            try simp only [Act.put, List.setIfInBounds_toArray, List.set_cons_zero, List.set_cons_succ]
            replace hS := Till.list 43 hS
            refine take_w (i := 51) (v := undef) (some 147) rfl (by kernel_rfl) rfl (fun _ _ _ h => h) (Or.inr ⟨by rfl, rfl⟩) hS ?_
            try simp only [Act.put, List.setIfInBounds_toArray, List.set_cons_zero, List.set_cons_succ]
            replace hS := Till.list 51 hS
            refine take_w (i := 44) (v := undef) (some 140) rfl (by kernel_rfl) rfl (fun _ _ _ h => h) (Or.inr ⟨by rfl, rfl⟩) hS ?_
            try simp only [Act.put, List.setIfInBounds_toArray, List.set_cons_zero, List.set_cons_succ]
            replace hS := Till.list 44 hS
            refine take_w (i := 52) (v := undef) (some 148) rfl (by kernel_rfl) rfl (fun _ _ _ h => h) (Or.inr ⟨by rfl, rfl⟩) hS ?_
            try simp only [Act.put, List.setIfInBounds_toArray, List.set_cons_zero, List.set_cons_succ]
            replace hS := Till.list 52 hS
            refine take_w (i := 53) (v := undef) (some 149) rfl (by kernel_rfl) rfl (fun _ _ _ h => h) (Or.inr ⟨by rfl, rfl⟩) hS ?_
            try simp only [Act.put, List.setIfInBounds_toArray, List.set_cons_zero, List.set_cons_succ]
            replace hS := Till.list 53 hS
            refine take_w (i := 54) (v := undef) (some 150) rfl (by kernel_rfl) rfl (fun _ _ _ h => h) (Or.inr ⟨by rfl, rfl⟩) hS ?_
            try simp only [Act.put, List.setIfInBounds_toArray, List.set_cons_zero, List.set_cons_succ]
            replace hS := Till.list 54 hS
            refine take_w (i := 55) (v := ?_) (some 151) rfl (by kernel_rfl) rfl (fun _ _ _ h => h) (Or.inl ⟨by rfl, ?_⟩) hS ?_
            rotate_left
            · (intro wq hq; go_simp); first | done | with_reducible rfl
            try simp only [Act.put, List.setIfInBounds_toArray, List.set_cons_zero, List.set_cons_succ]
            replace hS := Till.list 55 hS
            refine done_g (by kernel_rfl) (NoPanic.normal ?_) _
            clear hS
            go_wp2_with fail
            go_roundw
            case rel => exact ⟨1, by go_num, by omega, hbi2.drew⟩
            case measure => simp [intOf]; omega
          · obtain ⟨p, hp⟩ : ∃ p, i - 1 = p := ⟨_, rfl⟩
            have w3' : IntKind.i64.wrap ((i : Int) - 1) = (p : Int) := by rw [IntKind.wrap_i64]; omega
            have hi0 : (0 : Int) < (i : Int) := by omega
            have hpj : p < j := by omega
            have hip : i = p + 1 := by omega
            obtain ⟨b1', o1', A0, L0, C0, e4, hc0, hL0, hv0⟩ := rv6.at p hpj
            cases e4
            rw [Nat.zero_add] at hc0
            obtain ⟨s, hs, hes⟩ := HST.out.one p (by rw [hll.out]; exact hpj)
            have h2 := HST.out.two p s t (by rw [hll.out]; omega) hs ht hes (by rw [← hip]; exact HET.out)
            rw [hes] at hv0
            obtain rfl : 2 = L0 := WV.len hv0
            obtain ⟨b4, o4, rfl, hf0, -⟩ := WV.at hv0 0 (by omega)
            obtain ⟨_, _, e5, hf1, -⟩ := WV.at hv0 1 (by omega)
            cases e5
            obtain ⟨b1'', o1'', A1, L1, C1, e1, hc, hL1, hv1⟩ := rv6.at i hij
            cases e1
            rw [Nat.zero_add] at hc
            rw [HET.out] at hv1
            obtain rfl : 2 = L1 := WV.len hv1
            obtain ⟨b2, o2, rfl, hd0, -⟩ := WV.at hv1 0 (by omega)
            obtain ⟨_, _, e2, hd1, -⟩ := WV.at hv1 1 (by omega)
            cases e2
            have hc := keepc hc hbi2
            have hd0 := keepc hd0 hbi2
            have hd1 := keepc hd1 hbi2
            have hc0 := keepc hc0 hbi2
            have hf0 := keepc hf0 hbi2
            have hf1 := keepc hf1 hbi2
            rw [Nat.zero_mul, Nat.add_zero] at hd0 hf0
            rw [Nat.one_mul] at hd1 hf1
            have hd0 : w7.cell? ⟨b2, o2, none⟩ = some (.int .i64 (zs.getD t 0)) := hd0
            have hd1 : w7.cell? ⟨b2, o2 + 2, none⟩ = some (.int .i64 (t : Int)) := hd1
            have hf0 : w7.cell? ⟨b4, o4, none⟩ = some (.int .i64 (zs.getD s 0)) := hf0
            have hf1 : w7.cell? ⟨b4, o4 + 2, none⟩ = some (.int .i64 (s : Int)) := hf1
            obtain ⟨y, hye⟩ : ∃ y, zs.getD s 0 = y := ⟨_, rfl⟩
            rw [HZ.out, hye] at h2
            rw [HZ.out] at hd0
            rw [hye] at hf0
            clear hye hv0 hv1 hes hp hip
            rcases h2 with hlt9 | ⟨heq9, hst9⟩
            · have q1 : ¬ z < y := by omega
              have q2 : ¬ y = z := by omega
              go_wp2_with fail
              refine wp_region_noPanic ?_
              refine region_g 56 (Ext (World.drew _)) (by kernel_rfl) (Ext.refl _) (fun hS => ?_)
              refine take_w (i := 0) (v := ?_) (some 96) rfl (by kernel_rfl) rfl (fun _ _ _ h => h) (Or.inl ⟨by rfl, ?_⟩) hS ?_
              rotate_left
              · (intro wq hq; go_simp); first | done | with_reducible rfl
              try simp only [Act.put, List.setIfInBounds_toArray, List.set_cons_zero, List.set_cons_succ]
              replace hS := Till.list 0 hS
              refine take_n (i := 1) (v := .bool true) (some 97) rfl (by kernel_rfl) rfl (fun _ _ _ h => h) (Or.inl ⟨by rfl, ?_⟩) hS ?_
              · (intro wq hq; (have hq0 : 0 < i := (by omega); go_simp <;> simp))
              try simp only [Act.put, List.setIfInBounds_toArray, List.set_cons_zero, List.set_cons_succ]
              replace hS := Till.list 1 hS
              refine take_w (i := 2) (v := ?_) (some 98) rfl (by kernel_rfl) rfl (fun _ _ _ h => h) (Or.inl ⟨by rfl, ?_⟩) hS ?_
              rotate_left
              · (intro wq hq; go_simp); first | done | with_reducible rfl
              try simp only [Act.put, List.setIfInBounds_toArray, List.set_cons_zero, List.set_cons_succ]
              replace hS := Till.list 2 hS
              refine take_w (i := 3) (v := ?_) (some 99) rfl (by kernel_rfl) rfl (fun _ _ _ h => h) (Or.inl ⟨by rfl, ?_⟩) hS ?_
              rotate_left
              · (intro wq hq; go_simp); first | done | with_reducible rfl
              try simp only [Act.put, List.setIfInBounds_toArray, List.set_cons_zero, List.set_cons_succ]
              replace hS := Till.list 3 hS
              refine take_w (i := 4) (v := ?_) (some 100) rfl (by kernel_rfl) rfl (fun _ _ _ h => h) (Or.inl ⟨by rfl, ?_⟩) hS ?_
              rotate_left
              · (intro wq hq; go_simp); first | done | with_reducible rfl
              try simp only [Act.put, List.setIfInBounds_toArray, List.set_cons_zero, List.set_cons_succ]
              replace hS := Till.list 4 hS
              refine take_w (i := 11) (v := ?_) (some 107) rfl (by kernel_rfl) rfl (fun _ _ _ h => h) (Or.inl ⟨by rfl, ?_⟩) hS ?_
              rotate_left
              · (intro wq hq; go_simp); first | done | with_reducible rfl
              try simp only [Act.put, List.setIfInBounds_toArray, List.set_cons_zero, List.set_cons_succ]
              replace hS := Till.list 11 hS
              refine take_w (i := 12) (v := ?_) (some 108) rfl (by kernel_rfl) rfl (fun _ _ _ h => h) (Or.inl ⟨by rfl, ?_⟩) hS ?_
              rotate_left
              · (intro wq hq; go_simp); first | done | with_reducible rfl
              try simp only [Act.put, List.setIfInBounds_toArray, List.set_cons_zero, List.set_cons_succ]
              replace hS := Till.list 12 hS
              refine take_w (i := 5) (v := ?_) (some 101) rfl (by kernel_rfl) rfl (fun _ _ _ h => h) (Or.inl ⟨by rfl, ?_⟩) hS ?_
              rotate_left
              · (intro wq hq; go_simp); first | done | with_reducible rfl
              try simp only [Act.put, List.setIfInBounds_toArray, List.set_cons_zero, List.set_cons_succ]
              replace hS := Till.list 5 hS
              refine take_w (i := 13) (v := ?_) (some 109) rfl (by kernel_rfl) rfl (fun _ _ _ h => h) (Or.inl ⟨by rfl, ?_⟩) hS ?_
              rotate_left
              · (intro wq hq; go_simp); first | done | with_reducible rfl
              try simp only [Act.put, List.setIfInBounds_toArray, List.set_cons_zero, List.set_cons_succ]
              replace hS := Till.list 13 hS
              refine take_w (i := 6) (v := ?_) (some 102) rfl (by kernel_rfl) rfl (fun _ _ _ h => h) (Or.inl ⟨by rfl, ?_⟩) hS ?_
              rotate_left
              · (intro wq hq; go_simp); first | done | with_reducible rfl
              try simp only [Act.put, List.setIfInBounds_toArray, List.set_cons_zero, List.set_cons_succ]
              replace hS := Till.list 6 hS
              refine take_n (i := 14) (v := ?_) (some 110) rfl (by kernel_rfl) rfl (fun _ _ _ h => h) (Or.inl ⟨by rfl, ?_⟩) hS ?_
              rotate_left
              · (intro wq hq; have q0 := hq _ _ _ hc; have q1 := hq _ _ _ hd0; have q2 := hq _ _ _ hc0; have q3 := hq _ _ _ hf0; go_simp); first | done | with_reducible rfl
              try simp only [Act.put, List.setIfInBounds_toArray, List.set_cons_zero, List.set_cons_succ]
              replace hS := Till.list 14 hS
              refine take_n (i := 7) (v := ?_) (some 103) rfl (by kernel_rfl) rfl (fun _ _ _ h => h) (Or.inl ⟨by rfl, ?_⟩) hS ?_
              rotate_left
              · (intro wq hq; have q0 := hq _ _ _ hc; have q1 := hq _ _ _ hd0; have q2 := hq _ _ _ hc0; have q3 := hq _ _ _ hf0; go_simp); first | done | with_reducible rfl
              try simp only [Act.put, List.setIfInBounds_toArray, List.set_cons_zero, List.set_cons_succ]
              replace hS := Till.list 7 hS
              refine take_w (i := 15) (v := ?_) (some 111) rfl (by kernel_rfl) rfl (fun _ _ _ h => h) (Or.inl ⟨by rfl, ?_⟩) hS ?_
              rotate_left
              · (intro wq hq; go_simp); first | done | with_reducible rfl
              try simp only [Act.put, List.setIfInBounds_toArray, List.set_cons_zero, List.set_cons_succ]
              replace hS := Till.list 15 hS
              refine take_w (i := 8) (v := ?_) (some 104) rfl (by kernel_rfl) rfl (fun _ _ _ h => h) (Or.inl ⟨by rfl, ?_⟩) hS ?_
              rotate_left
              · (intro wq hq; go_simp); first | done | with_reducible rfl
              try simp only [Act.put, List.setIfInBounds_toArray, List.set_cons_zero, List.set_cons_succ]
              replace hS := Till.list 8 hS
              refine take_w (i := 16) (v := ?_) (some 112) rfl (by kernel_rfl) rfl (fun _ _ _ h => h) (Or.inl ⟨by rfl, ?_⟩) hS ?_
              rotate_left
              · (intro wq hq; go_simp); first | done | with_reducible rfl
              try simp only [Act.put, List.setIfInBounds_toArray, List.set_cons_zero, List.set_cons_succ]
              replace hS := Till.list 16 hS
              refine take_w (i := 9) (v := ?_) (some 105) rfl (by kernel_rfl) rfl (fun _ _ _ h => h) (Or.inl ⟨by rfl, ?_⟩) hS ?_
              rotate_left
              · (intro wq hq; go_simp); first | done | with_reducible rfl
              try simp only [Act.put, List.setIfInBounds_toArray, List.set_cons_zero, List.set_cons_succ]
              replace hS := Till.list 9 hS
              refine take_n (i := 17) (v := ?_) (some 113) rfl (by kernel_rfl) rfl (fun _ _ _ h => h) (Or.inl ⟨by rfl, ?_⟩) hS ?_
              rotate_left
              · (intro wq hq; have q0 := hq _ _ _ hc; have q1 := hq _ _ _ hd0; have q2 := hq _ _ _ hc0; have q3 := hq _ _ _ hf0; go_simp); first | done | with_reducible rfl
              try simp only [Act.put, List.setIfInBounds_toArray, List.set_cons_zero, List.set_cons_succ]
              replace hS := Till.list 17 hS
              refine take_n (i := 10) (v := ?_) (some 106) rfl (by kernel_rfl) rfl (fun _ _ _ h => h) (Or.inl ⟨by rfl, ?_⟩) hS ?_
              rotate_left
              · (intro wq hq; have q0 := hq _ _ _ hc; have q1 := hq _ _ _ hd0; have q2 := hq _ _ _ hc0; have q3 := hq _ _ _ hf0; go_simp); first | done | with_reducible rfl
              try simp only [Act.put, List.setIfInBounds_toArray, List.set_cons_zero, List.set_cons_succ]
              replace hS := Till.list 10 hS
              refine take_n (i := 18) (v := .bool false) (some 114) rfl (by kernel_rfl) rfl (fun _ _ _ h => h) (Or.inl ⟨by rfl, ?_⟩) hS ?_
              · (intro wq hq; (go_simp <;> simp <;> omega))
              try simp only [Act.put, List.setIfInBounds_toArray, List.set_cons_zero, List.set_cons_succ]
              replace hS := Till.list 18 hS
              refine take_w (i := 19) (v := ?_) (some 115) rfl (by kernel_rfl) rfl (fun _ _ _ h => h) (Or.inl ⟨by rfl, ?_⟩) hS ?_
              rotate_left
              · (intro wq hq; go_simp); first | done | with_reducible rfl
              try simp only [Act.put, List.setIfInBounds_toArray, List.set_cons_zero, List.set_cons_succ]
              replace hS := Till.list 19 hS
              refine take_w (i := 20) (v := ?_) (some 116) rfl (by kernel_rfl) rfl (fun _ _ _ h => h) (Or.inl ⟨by rfl, ?_⟩) hS ?_
              rotate_left
              · (intro wq hq; go_simp); first | done | with_reducible rfl
              try simp only [Act.put, List.setIfInBounds_toArray, List.set_cons_zero, List.set_cons_succ]
              replace hS := Till.list 20 hS
              refine take_w (i := 21) (v := ?_) (some 117) rfl (by kernel_rfl) rfl (fun _ _ _ h => h) (Or.inl ⟨by rfl, ?_⟩) hS ?_
              rotate_left
              · (intro wq hq; go_simp); first | done | with_reducible rfl
              try simp only [Act.put, List.setIfInBounds_toArray, List.set_cons_zero, List.set_cons_succ]
              replace hS := Till.list 21 hS
              refine take_w (i := 28) (v := ?_) (some 124) rfl (by kernel_rfl) rfl (fun _ _ _ h => h) (Or.inl ⟨by rfl, ?_⟩) hS ?_
              rotate_left
              · (intro wq hq; go_simp); first | done | with_reducible rfl
              try simp only [Act.put, List.setIfInBounds_toArray, List.set_cons_zero, List.set_cons_succ]
              replace hS := Till.list 28 hS
              refine take_w (i := 29) (v := ?_) (some 125) rfl (by kernel_rfl) rfl (fun _ _ _ h => h) (Or.inl ⟨by rfl, ?_⟩) hS ?_
              rotate_left
              · (intro wq hq; go_simp); first | done | with_reducible rfl
              try simp only [Act.put, List.setIfInBounds_toArray, List.set_cons_zero, List.set_cons_succ]
              replace hS := Till.list 29 hS
              refine take_w (i := 22) (v := ?_) (some 118) rfl (by kernel_rfl) rfl (fun _ _ _ h => h) (Or.inl ⟨by rfl, ?_⟩) hS ?_
              rotate_left
              · (intro wq hq; go_simp); first | done | with_reducible rfl
              try simp only [Act.put, List.setIfInBounds_toArray, List.set_cons_zero, List.set_cons_succ]
              replace hS := Till.list 22 hS
              refine take_w (i := 30) (v := ?_) (some 126) rfl (by kernel_rfl) rfl (fun _ _ _ h => h) (Or.inl ⟨by rfl, ?_⟩) hS ?_
              rotate_left
              · (intro wq hq; go_simp); first | done | with_reducible rfl
              try simp only [Act.put, List.setIfInBounds_toArray, List.set_cons_zero, List.set_cons_succ]
              replace hS := Till.list 30 hS
              refine take_w (i := 23) (v := ?_) (some 119) rfl (by kernel_rfl) rfl (fun _ _ _ h => h) (Or.inl ⟨by rfl, ?_⟩) hS ?_
              rotate_left
              · (intro wq hq; go_simp); first | done | with_reducible rfl
              try simp only [Act.put, List.setIfInBounds_toArray, List.set_cons_zero, List.set_cons_succ]
              replace hS := Till.list 23 hS
              refine take_n (i := 31) (v := ?_) (some 127) rfl (by kernel_rfl) rfl (fun _ _ _ h => h) (Or.inl ⟨by rfl, ?_⟩) hS ?_
              rotate_left
              · (intro wq hq; have q0 := hq _ _ _ hc; have q1 := hq _ _ _ hd0; have q2 := hq _ _ _ hc0; have q3 := hq _ _ _ hf0; go_simp); first | done | with_reducible rfl
              try simp only [Act.put, List.setIfInBounds_toArray, List.set_cons_zero, List.set_cons_succ]
              replace hS := Till.list 31 hS
              refine take_n (i := 24) (v := ?_) (some 120) rfl (by kernel_rfl) rfl (fun _ _ _ h => h) (Or.inl ⟨by rfl, ?_⟩) hS ?_
              rotate_left
              · (intro wq hq; have q0 := hq _ _ _ hc; have q1 := hq _ _ _ hd0; have q2 := hq _ _ _ hc0; have q3 := hq _ _ _ hf0; go_simp); first | done | with_reducible rfl
              try simp only [Act.put, List.setIfInBounds_toArray, List.set_cons_zero, List.set_cons_succ]
              replace hS := Till.list 24 hS
              refine take_w (i := 32) (v := ?_) (some 128) rfl (by kernel_rfl) rfl (fun _ _ _ h => h) (Or.inl ⟨by rfl, ?_⟩) hS ?_
              rotate_left
              · (intro wq hq; go_simp); first | done | with_reducible rfl
              try simp only [Act.put, List.setIfInBounds_toArray, List.set_cons_zero, List.set_cons_succ]
              replace hS := Till.list 32 hS
              refine take_w (i := 25) (v := ?_) (some 121) rfl (by kernel_rfl) rfl (fun _ _ _ h => h) (Or.inl ⟨by rfl, ?_⟩) hS ?_
              rotate_left
              · (intro wq hq; go_simp); first | done | with_reducible rfl
              try simp only [Act.put, List.setIfInBounds_toArray, List.set_cons_zero, List.set_cons_succ]
              replace hS := Till.list 25 hS
              refine take_w (i := 33) (v := ?_) (some 129) rfl (by kernel_rfl) rfl (fun _ _ _ h => h) (Or.inl ⟨by rfl, ?_⟩) hS ?_
              rotate_left
              · (intro wq hq; go_simp); first | done | with_reducible rfl
              try simp only [Act.put, List.setIfInBounds_toArray, List.set_cons_zero, List.set_cons_succ]
              replace hS := Till.list 33 hS
              refine take_w (i := 26) (v := ?_) (some 122) rfl (by kernel_rfl) rfl (fun _ _ _ h => h) (Or.inl ⟨by rfl, ?_⟩) hS ?_
              rotate_left
              · (intro wq hq; go_simp); first | done | with_reducible rfl
              try simp only [Act.put, List.setIfInBounds_toArray, List.set_cons_zero, List.set_cons_succ]
              replace hS := Till.list 26 hS
              refine take_n (i := 34) (v := ?_) (some 130) rfl (by kernel_rfl) rfl (fun _ _ _ h => h) (Or.inl ⟨by rfl, ?_⟩) hS ?_
              rotate_left
              · (intro wq hq; have q0 := hq _ _ _ hc; have q1 := hq _ _ _ hd0; have q2 := hq _ _ _ hc0; have q3 := hq _ _ _ hf0; go_simp); first | done | with_reducible rfl
              try simp only [Act.put, List.setIfInBounds_toArray, List.set_cons_zero, List.set_cons_succ]
              replace hS := Till.list 34 hS
              refine take_n (i := 27) (v := ?_) (some 123) rfl (by kernel_rfl) rfl (fun _ _ _ h => h) (Or.inl ⟨by rfl, ?_⟩) hS ?_
              rotate_left
              · (intro wq hq; have q0 := hq _ _ _ hc; have q1 := hq _ _ _ hd0; have q2 := hq _ _ _ hc0; have q3 := hq _ _ _ hf0; go_simp); first | done | with_reducible rfl
              try simp only [Act.put, List.setIfInBounds_toArray, List.set_cons_zero, List.set_cons_succ]
              replace hS := Till.list 27 hS
              refine take_n (i := 35) (v := .bool false) (some 131) rfl (by kernel_rfl) rfl (fun _ _ _ h => h) (Or.inl ⟨by rfl, ?_⟩) hS ?_
              · (intro wq hq; (go_simp <;> simp <;> omega))
              try simp only [Act.put, List.setIfInBounds_toArray, List.set_cons_zero, List.set_cons_succ]
              replace hS := Till.list 35 hS
              refine take_w (i := 36) (v := ?_) (some 132) rfl (by kernel_rfl) rfl (fun _ _ _ h => h) (Or.inl ⟨by rfl, ?_⟩) hS ?_
              rotate_left
              · (intro wq hq; go_simp); first | done | with_reducible rfl
              try simp only [Act.put, List.setIfInBounds_toArray, List.set_cons_zero, List.set_cons_succ]
              replace hS := Till.list 36 hS
              refine take_w (i := 37) (v := undef) (some 133) rfl (by kernel_rfl) rfl (fun _ _ _ h => h) (Or.inr ⟨by rfl, rfl⟩) hS ?_
              try simp only [Act.put, List.setIfInBounds_toArray, List.set_cons_zero, List.set_cons_succ]
              replace hS := Till.list 37 hS
              refine take_w (i := 38) (v := undef) (some 134) rfl (by kernel_rfl) rfl (fun _ _ _ h => h) (Or.inr ⟨by rfl, rfl⟩) hS ?_
              try simp only [Act.put, List.setIfInBounds_toArray, List.set_cons_zero, List.set_cons_succ]
              replace hS := Till.list 38 hS
              refine take_w (i := 45) (v := undef) (some 141) rfl (by kernel_rfl) rfl (fun _ _ _ h => h) (Or.inr ⟨by rfl, rfl⟩) hS ?_
              try simp only [Act.put, List.setIfInBounds_toArray, List.set_cons_zero, List.set_cons_succ]
              replace hS := Till.list 45 hS
              refine take_w (i := 46) (v := undef) (some 142) rfl (by kernel_rfl) rfl (fun _ _ _ h => h) (Or.inr ⟨by rfl, rfl⟩) hS ?_
              try simp only [Act.put, List.setIfInBounds_toArray, List.set_cons_zero, List.set_cons_succ]
              replace hS := Till.list 46 hS
              refine take_w (i := 39) (v := undef) (some 135) rfl (by kernel_rfl) rfl (fun _ _ _ h => h) (Or.inr ⟨by rfl, rfl⟩) hS ?_
              try simp only [Act.put, List.setIfInBounds_toArray, List.set_cons_zero, List.set_cons_succ]
              replace hS := Till.list 39 hS
              refine take_w (i := 47) (v := undef) (some 143) rfl (by kernel_rfl) rfl (fun _ _ _ h => h) (Or.inr ⟨by rfl, rfl⟩) hS ?_
              try simp only [Act.put, List.setIfInBounds_toArray, List.set_cons_zero, List.set_cons_succ]
              replace hS := Till.list 47 hS
              refine take_w (i := 40) (v := undef) (some 136) rfl (by kernel_rfl) rfl (fun _ _ _ h => h) (Or.inr ⟨by rfl, rfl⟩) hS ?_
              try simp only [Act.put, List.setIfInBounds_toArray, List.set_cons_zero, List.set_cons_succ]
              replace hS := Till.list 40 hS
              refine take_w (i := 48) (v := undef) (some 144) rfl (by kernel_rfl) rfl (fun _ _ _ h => h) (Or.inr ⟨by rfl, rfl⟩) hS ?_
              try simp only [Act.put, List.setIfInBounds_toArray, List.set_cons_zero, List.set_cons_succ]
              replace hS := Till.list 48 hS
              refine take_w (i := 41) (v := undef) (some 137) rfl (by kernel_rfl) rfl (fun _ _ _ h => h) (Or.inr ⟨by rfl, rfl⟩) hS ?_
              try simp only [Act.put, List.setIfInBounds_toArray, List.set_cons_zero, List.set_cons_succ]
              replace hS := Till.list 41 hS
              refine take_w (i := 49) (v := undef) (some 145) rfl (by kernel_rfl) rfl (fun _ _ _ h => h) (Or.inr ⟨by rfl, rfl⟩) hS ?_
              try simp only [Act.put, List.setIfInBounds_toArray, List.set_cons_zero, List.set_cons_succ]
              replace hS := Till.list 49 hS
              refine take_w (i := 42) (v := undef) (some 138) rfl (by kernel_rfl) rfl (fun _ _ _ h => h) (Or.inr ⟨by rfl, rfl⟩) hS ?_
              try simp only [Act.put, List.setIfInBounds_toArray, List.set_cons_zero, List.set_cons_succ]
              replace hS := Till.list 42 hS
              refine take_w (i := 50) (v := undef) (some 146) rfl (by kernel_rfl) rfl (fun _ _ _ h => h) (Or.inr ⟨by rfl, rfl⟩) hS ?_
              try simp only [Act.put, List.setIfInBounds_toArray, List.set_cons_zero, List.set_cons_succ]
              replace hS := Till.list 50 hS
              refine take_w (i := 43) (v := undef) (some 139) rfl (by kernel_rfl) rfl (fun _ _ _ h => h) (Or.inr ⟨by rfl, rfl⟩) hS ?_
              try simp only [Act.put, List.setIfInBounds_toArray, List.set_cons_zero, List.set_cons_succ]
              replace hS := Till.list 43 hS
              refine take_w (i := 51) (v := undef) (some 147) rfl (by kernel_rfl) rfl (fun _ _ _ h => h) (Or.inr ⟨by rfl, rfl⟩) hS ?_
              try simp only [Act.put, List.setIfInBounds_toArray, List.set_cons_zero, List.set_cons_succ]
              replace hS := Till.list 51 hS
              refine take_w (i := 44) (v := undef) (some 140) rfl (by kernel_rfl) rfl (fun _ _ _ h => h) (Or.inr ⟨by rfl, rfl⟩) hS ?_
              try simp only [Act.put, List.setIfInBounds_toArray, List.set_cons_zero, List.set_cons_succ]
              replace hS := Till.list 44 hS
              refine take_w (i := 52) (v := undef) (some 148) rfl (by kernel_rfl) rfl (fun _ _ _ h => h) (Or.inr ⟨by rfl, rfl⟩) hS ?_
              try simp only [Act.put, List.setIfInBounds_toArray, List.set_cons_zero, List.set_cons_succ]
              replace hS := Till.list 52 hS
              refine take_w (i := 53) (v := ?_) (some 149) rfl (by kernel_rfl) rfl (fun _ _ _ h => h) (Or.inl ⟨by rfl, ?_⟩) hS ?_
              rotate_left
              · (intro wq hq; go_simp); first | done | with_reducible rfl
              try simp only [Act.put, List.setIfInBounds_toArray, List.set_cons_zero, List.set_cons_succ]
              replace hS := Till.list 53 hS
              refine take_w (i := 54) (v := ?_) (some 150) rfl (by kernel_rfl) rfl (fun _ _ _ h => h) (Or.inl ⟨by rfl, ?_⟩) hS ?_
              rotate_left
              · (intro wq hq; go_simp); first | done | with_reducible rfl
              try simp only [Act.put, List.setIfInBounds_toArray, List.set_cons_zero, List.set_cons_succ]
              replace hS := Till.list 54 hS
              refine take_w (i := 55) (v := ?_) (some 151) rfl (by kernel_rfl) rfl (fun _ _ _ h => h) (Or.inl ⟨by rfl, ?_⟩) hS ?_
              rotate_left
              · (intro wq hq; go_simp); first | done | with_reducible rfl
              try simp only [Act.put, List.setIfInBounds_toArray, List.set_cons_zero, List.set_cons_succ]
              replace hS := Till.list 55 hS
              refine done_g (by kernel_rfl) (NoPanic.normal ?_) _
              clear hS
              go_wp2_with fail
              go_roundw
              case rel => exact ⟨i + 1, by go_num, by omega, hbi2.drew⟩
              case measure => simp [intOf]; omega
            · subst heq9
              go_wp2_with fail
              refine wp_region_noPanic ?_
              refine region_g 56 (Ext (World.drew _)) (by kernel_rfl) (Ext.refl _) (fun hS => ?_)
              refine take_w (i := 0) (v := ?_) (some 96) rfl (by kernel_rfl) rfl (fun _ _ _ h => h) (Or.inl ⟨by rfl, ?_⟩) hS ?_
              rotate_left
              · (intro wq hq; go_simp); first | done | with_reducible rfl
              try simp only [Act.put, List.setIfInBounds_toArray, List.set_cons_zero, List.set_cons_succ]
              replace hS := Till.list 0 hS
              refine take_n (i := 1) (v := .bool true) (some 97) rfl (by kernel_rfl) rfl (fun _ _ _ h => h) (Or.inl ⟨by rfl, ?_⟩) hS ?_
              · (intro wq hq; (have hq0 : 0 < i := (by omega); go_simp <;> simp))
              try simp only [Act.put, List.setIfInBounds_toArray, List.set_cons_zero, List.set_cons_succ]
              replace hS := Till.list 1 hS
              refine take_w (i := 2) (v := ?_) (some 98) rfl (by kernel_rfl) rfl (fun _ _ _ h => h) (Or.inl ⟨by rfl, ?_⟩) hS ?_
              rotate_left
              · (intro wq hq; go_simp); first | done | with_reducible rfl
              try simp only [Act.put, List.setIfInBounds_toArray, List.set_cons_zero, List.set_cons_succ]
              replace hS := Till.list 2 hS
              refine take_w (i := 3) (v := ?_) (some 99) rfl (by kernel_rfl) rfl (fun _ _ _ h => h) (Or.inl ⟨by rfl, ?_⟩) hS ?_
              rotate_left
              · (intro wq hq; go_simp); first | done | with_reducible rfl
              try simp only [Act.put, List.setIfInBounds_toArray, List.set_cons_zero, List.set_cons_succ]
              replace hS := Till.list 3 hS
              refine take_w (i := 4) (v := ?_) (some 100) rfl (by kernel_rfl) rfl (fun _ _ _ h => h) (Or.inl ⟨by rfl, ?_⟩) hS ?_
              rotate_left
              · (intro wq hq; go_simp); first | done | with_reducible rfl
              try simp only [Act.put, List.setIfInBounds_toArray, List.set_cons_zero, List.set_cons_succ]
              replace hS := Till.list 4 hS
              refine take_w (i := 11) (v := ?_) (some 107) rfl (by kernel_rfl) rfl (fun _ _ _ h => h) (Or.inl ⟨by rfl, ?_⟩) hS ?_
              rotate_left
              · (intro wq hq; go_simp); first | done | with_reducible rfl
              try simp only [Act.put, List.setIfInBounds_toArray, List.set_cons_zero, List.set_cons_succ]
              replace hS := Till.list 11 hS
              refine take_w (i := 12) (v := ?_) (some 108) rfl (by kernel_rfl) rfl (fun _ _ _ h => h) (Or.inl ⟨by rfl, ?_⟩) hS ?_
              rotate_left
              · (intro wq hq; go_simp); first | done | with_reducible rfl
              try simp only [Act.put, List.setIfInBounds_toArray, List.set_cons_zero, List.set_cons_succ]
              replace hS := Till.list 12 hS
              refine take_w (i := 5) (v := ?_) (some 101) rfl (by kernel_rfl) rfl (fun _ _ _ h => h) (Or.inl ⟨by rfl, ?_⟩) hS ?_
              rotate_left
              · (intro wq hq; go_simp); first | done | with_reducible rfl
              try simp only [Act.put, List.setIfInBounds_toArray, List.set_cons_zero, List.set_cons_succ]
              replace hS := Till.list 5 hS
              refine take_w (i := 13) (v := ?_) (some 109) rfl (by kernel_rfl) rfl (fun _ _ _ h => h) (Or.inl ⟨by rfl, ?_⟩) hS ?_
              rotate_left
              · (intro wq hq; go_simp); first | done | with_reducible rfl
              try simp only [Act.put, List.setIfInBounds_toArray, List.set_cons_zero, List.set_cons_succ]
              replace hS := Till.list 13 hS
              refine take_w (i := 6) (v := ?_) (some 102) rfl (by kernel_rfl) rfl (fun _ _ _ h => h) (Or.inl ⟨by rfl, ?_⟩) hS ?_
              rotate_left
              · (intro wq hq; go_simp); first | done | with_reducible rfl
              try simp only [Act.put, List.setIfInBounds_toArray, List.set_cons_zero, List.set_cons_succ]
              replace hS := Till.list 6 hS
              refine take_n (i := 14) (v := ?_) (some 110) rfl (by kernel_rfl) rfl (fun _ _ _ h => h) (Or.inl ⟨by rfl, ?_⟩) hS ?_
              rotate_left
              · (intro wq hq; have q0 := hq _ _ _ hc; have q1 := hq _ _ _ hd0; have q2 := hq _ _ _ hd1; have q3 := hq _ _ _ hc0; have q4 := hq _ _ _ hf0; have q5 := hq _ _ _ hf1; go_simp); first | done | with_reducible rfl
              try simp only [Act.put, List.setIfInBounds_toArray, List.set_cons_zero, List.set_cons_succ]
              replace hS := Till.list 14 hS
              refine take_n (i := 7) (v := ?_) (some 103) rfl (by kernel_rfl) rfl (fun _ _ _ h => h) (Or.inl ⟨by rfl, ?_⟩) hS ?_
              rotate_left
              · (intro wq hq; have q0 := hq _ _ _ hc; have q1 := hq _ _ _ hd0; have q2 := hq _ _ _ hd1; have q3 := hq _ _ _ hc0; have q4 := hq _ _ _ hf0; have q5 := hq _ _ _ hf1; go_simp); first | done | with_reducible rfl
              try simp only [Act.put, List.setIfInBounds_toArray, List.set_cons_zero, List.set_cons_succ]
              replace hS := Till.list 7 hS
              refine take_w (i := 15) (v := ?_) (some 111) rfl (by kernel_rfl) rfl (fun _ _ _ h => h) (Or.inl ⟨by rfl, ?_⟩) hS ?_
              rotate_left
              · (intro wq hq; go_simp); first | done | with_reducible rfl
              try simp only [Act.put, List.setIfInBounds_toArray, List.set_cons_zero, List.set_cons_succ]
              replace hS := Till.list 15 hS
              refine take_w (i := 8) (v := ?_) (some 104) rfl (by kernel_rfl) rfl (fun _ _ _ h => h) (Or.inl ⟨by rfl, ?_⟩) hS ?_
              rotate_left
              · (intro wq hq; go_simp); first | done | with_reducible rfl
              try simp only [Act.put, List.setIfInBounds_toArray, List.set_cons_zero, List.set_cons_succ]
              replace hS := Till.list 8 hS
              refine take_w (i := 16) (v := ?_) (some 112) rfl (by kernel_rfl) rfl (fun _ _ _ h => h) (Or.inl ⟨by rfl, ?_⟩) hS ?_
              rotate_left
              · (intro wq hq; go_simp); first | done | with_reducible rfl
              try simp only [Act.put, List.setIfInBounds_toArray, List.set_cons_zero, List.set_cons_succ]
              replace hS := Till.list 16 hS
              refine take_w (i := 9) (v := ?_) (some 105) rfl (by kernel_rfl) rfl (fun _ _ _ h => h) (Or.inl ⟨by rfl, ?_⟩) hS ?_
              rotate_left
              · (intro wq hq; go_simp); first | done | with_reducible rfl
              try simp only [Act.put, List.setIfInBounds_toArray, List.set_cons_zero, List.set_cons_succ]
              replace hS := Till.list 9 hS
              refine take_n (i := 17) (v := ?_) (some 113) rfl (by kernel_rfl) rfl (fun _ _ _ h => h) (Or.inl ⟨by rfl, ?_⟩) hS ?_
              rotate_left
              · (intro wq hq; have q0 := hq _ _ _ hc; have q1 := hq _ _ _ hd0; have q2 := hq _ _ _ hd1; have q3 := hq _ _ _ hc0; have q4 := hq _ _ _ hf0; have q5 := hq _ _ _ hf1; go_simp); first | done | with_reducible rfl
              try simp only [Act.put, List.setIfInBounds_toArray, List.set_cons_zero, List.set_cons_succ]
              replace hS := Till.list 17 hS
              refine take_n (i := 10) (v := ?_) (some 106) rfl (by kernel_rfl) rfl (fun _ _ _ h => h) (Or.inl ⟨by rfl, ?_⟩) hS ?_
              rotate_left
              · (intro wq hq; have q0 := hq _ _ _ hc; have q1 := hq _ _ _ hd0; have q2 := hq _ _ _ hd1; have q3 := hq _ _ _ hc0; have q4 := hq _ _ _ hf0; have q5 := hq _ _ _ hf1; go_simp); first | done | with_reducible rfl
              try simp only [Act.put, List.setIfInBounds_toArray, List.set_cons_zero, List.set_cons_succ]
              replace hS := Till.list 10 hS
              refine take_n (i := 18) (v := .bool false) (some 114) rfl (by kernel_rfl) rfl (fun _ _ _ h => h) (Or.inl ⟨by rfl, ?_⟩) hS ?_
              · (intro wq hq; (go_simp <;> simp <;> omega))
              try simp only [Act.put, List.setIfInBounds_toArray, List.set_cons_zero, List.set_cons_succ]
              replace hS := Till.list 18 hS
              refine take_w (i := 19) (v := ?_) (some 115) rfl (by kernel_rfl) rfl (fun _ _ _ h => h) (Or.inl ⟨by rfl, ?_⟩) hS ?_
              rotate_left
              · (intro wq hq; go_simp); first | done | with_reducible rfl
              try simp only [Act.put, List.setIfInBounds_toArray, List.set_cons_zero, List.set_cons_succ]
              replace hS := Till.list 19 hS
              refine take_w (i := 20) (v := ?_) (some 116) rfl (by kernel_rfl) rfl (fun _ _ _ h => h) (Or.inl ⟨by rfl, ?_⟩) hS ?_
              rotate_left
              · (intro wq hq; go_simp); first | done | with_reducible rfl
              try simp only [Act.put, List.setIfInBounds_toArray, List.set_cons_zero, List.set_cons_succ]
              replace hS := Till.list 20 hS
              refine take_w (i := 21) (v := ?_) (some 117) rfl (by kernel_rfl) rfl (fun _ _ _ h => h) (Or.inl ⟨by rfl, ?_⟩) hS ?_
              rotate_left
              · (intro wq hq; go_simp); first | done | with_reducible rfl
              try simp only [Act.put, List.setIfInBounds_toArray, List.set_cons_zero, List.set_cons_succ]
              replace hS := Till.list 21 hS
              refine take_w (i := 28) (v := ?_) (some 124) rfl (by kernel_rfl) rfl (fun _ _ _ h => h) (Or.inl ⟨by rfl, ?_⟩) hS ?_
              rotate_left
              · (intro wq hq; go_simp); first | done | with_reducible rfl
              try simp only [Act.put, List.setIfInBounds_toArray, List.set_cons_zero, List.set_cons_succ]
              replace hS := Till.list 28 hS
              refine take_w (i := 29) (v := ?_) (some 125) rfl (by kernel_rfl) rfl (fun _ _ _ h => h) (Or.inl ⟨by rfl, ?_⟩) hS ?_
              rotate_left
              · (intro wq hq; go_simp); first | done | with_reducible rfl
              try simp only [Act.put, List.setIfInBounds_toArray, List.set_cons_zero, List.set_cons_succ]
              replace hS := Till.list 29 hS
              refine take_w (i := 22) (v := ?_) (some 118) rfl (by kernel_rfl) rfl (fun _ _ _ h => h) (Or.inl ⟨by rfl, ?_⟩) hS ?_
              rotate_left
              · (intro wq hq; go_simp); first | done | with_reducible rfl
              try simp only [Act.put, List.setIfInBounds_toArray, List.set_cons_zero, List.set_cons_succ]
              replace hS := Till.list 22 hS
              refine take_w (i := 30) (v := ?_) (some 126) rfl (by kernel_rfl) rfl (fun _ _ _ h => h) (Or.inl ⟨by rfl, ?_⟩) hS ?_
              rotate_left
              · (intro wq hq; go_simp); first | done | with_reducible rfl
              try simp only [Act.put, List.setIfInBounds_toArray, List.set_cons_zero, List.set_cons_succ]
              replace hS := Till.list 30 hS
              refine take_w (i := 23) (v := ?_) (some 119) rfl (by kernel_rfl) rfl (fun _ _ _ h => h) (Or.inl ⟨by rfl, ?_⟩) hS ?_
              rotate_left
              · (intro wq hq; go_simp); first | done | with_reducible rfl
              try simp only [Act.put, List.setIfInBounds_toArray, List.set_cons_zero, List.set_cons_succ]
              replace hS := Till.list 23 hS
              refine take_n (i := 31) (v := ?_) (some 127) rfl (by kernel_rfl) rfl (fun _ _ _ h => h) (Or.inl ⟨by rfl, ?_⟩) hS ?_
              rotate_left
              · (intro wq hq; have q0 := hq _ _ _ hc; have q1 := hq _ _ _ hd0; have q2 := hq _ _ _ hd1; have q3 := hq _ _ _ hc0; have q4 := hq _ _ _ hf0; have q5 := hq _ _ _ hf1; go_simp); first | done | with_reducible rfl
              try simp only [Act.put, List.setIfInBounds_toArray, List.set_cons_zero, List.set_cons_succ]
              replace hS := Till.list 31 hS
              refine take_n (i := 24) (v := ?_) (some 120) rfl (by kernel_rfl) rfl (fun _ _ _ h => h) (Or.inl ⟨by rfl, ?_⟩) hS ?_
              rotate_left
              · (intro wq hq; have q0 := hq _ _ _ hc; have q1 := hq _ _ _ hd0; have q2 := hq _ _ _ hd1; have q3 := hq _ _ _ hc0; have q4 := hq _ _ _ hf0; have q5 := hq _ _ _ hf1; go_simp); first | done | with_reducible rfl
              try simp only [Act.put, List.setIfInBounds_toArray, List.set_cons_zero, List.set_cons_succ]
              replace hS := Till.list 24 hS
              refine take_w (i := 32) (v := ?_) (some 128) rfl (by kernel_rfl) rfl (fun _ _ _ h => h) (Or.inl ⟨by rfl, ?_⟩) hS ?_
              rotate_left
              · (intro wq hq; go_simp); first | done | with_reducible rfl
              try simp only [Act.put, List.setIfInBounds_toArray, List.set_cons_zero, List.set_cons_succ]
              replace hS := Till.list 32 hS
              refine take_w (i := 25) (v := ?_) (some 121) rfl (by kernel_rfl) rfl (fun _ _ _ h => h) (Or.inl ⟨by rfl, ?_⟩) hS ?_
              rotate_left
              · (intro wq hq; go_simp); first | done | with_reducible rfl
              try simp only [Act.put, List.setIfInBounds_toArray, List.set_cons_zero, List.set_cons_succ]
              replace hS := Till.list 25 hS
              refine take_w (i := 33) (v := ?_) (some 129) rfl (by kernel_rfl) rfl (fun _ _ _ h => h) (Or.inl ⟨by rfl, ?_⟩) hS ?_
              rotate_left
              · (intro wq hq; go_simp); first | done | with_reducible rfl
              try simp only [Act.put, List.setIfInBounds_toArray, List.set_cons_zero, List.set_cons_succ]
              replace hS := Till.list 33 hS
              refine take_w (i := 26) (v := ?_) (some 122) rfl (by kernel_rfl) rfl (fun _ _ _ h => h) (Or.inl ⟨by rfl, ?_⟩) hS ?_
              rotate_left
              · (intro wq hq; go_simp); first | done | with_reducible rfl
              try simp only [Act.put, List.setIfInBounds_toArray, List.set_cons_zero, List.set_cons_succ]
              replace hS := Till.list 26 hS
              refine take_n (i := 34) (v := ?_) (some 130) rfl (by kernel_rfl) rfl (fun _ _ _ h => h) (Or.inl ⟨by rfl, ?_⟩) hS ?_
              rotate_left
              · (intro wq hq; have q0 := hq _ _ _ hc; have q1 := hq _ _ _ hd0; have q2 := hq _ _ _ hd1; have q3 := hq _ _ _ hc0; have q4 := hq _ _ _ hf0; have q5 := hq _ _ _ hf1; go_simp); first | done | with_reducible rfl
              try simp only [Act.put, List.setIfInBounds_toArray, List.set_cons_zero, List.set_cons_succ]
              replace hS := Till.list 34 hS
              refine take_n (i := 27) (v := ?_) (some 123) rfl (by kernel_rfl) rfl (fun _ _ _ h => h) (Or.inl ⟨by rfl, ?_⟩) hS ?_
              rotate_left
              · (intro wq hq; have q0 := hq _ _ _ hc; have q1 := hq _ _ _ hd0; have q2 := hq _ _ _ hd1; have q3 := hq _ _ _ hc0; have q4 := hq _ _ _ hf0; have q5 := hq _ _ _ hf1; go_simp); first | done | with_reducible rfl
              try simp only [Act.put, List.setIfInBounds_toArray, List.set_cons_zero, List.set_cons_succ]
              replace hS := Till.list 27 hS
              refine take_w (i := 35) (v := ?_) (some 131) rfl (by kernel_rfl) rfl (fun _ _ _ h => h) (Or.inl ⟨by rfl, ?_⟩) hS ?_
              rotate_left
              · (intro wq hq; go_simp); first | done | with_reducible rfl
              try simp only [Act.put, List.setIfInBounds_toArray, List.set_cons_zero, List.set_cons_succ]
              replace hS := Till.list 35 hS
              refine take_w (i := 36) (v := ?_) (some 132) rfl (by kernel_rfl) rfl (fun _ _ _ h => h) (Or.inl ⟨by rfl, ?_⟩) hS ?_
              rotate_left
              · (intro wq hq; go_simp); first | done | with_reducible rfl
              try simp only [Act.put, List.setIfInBounds_toArray, List.set_cons_zero, List.set_cons_succ]
              replace hS := Till.list 36 hS
              refine take_w (i := 37) (v := ?_) (some 133) rfl (by kernel_rfl) rfl (fun _ _ _ h => h) (Or.inl ⟨by rfl, ?_⟩) hS ?_
              rotate_left
              · (intro wq hq; go_simp); first | done | with_reducible rfl
              try simp only [Act.put, List.setIfInBounds_toArray, List.set_cons_zero, List.set_cons_succ]
              replace hS := Till.list 37 hS
              refine take_w (i := 38) (v := ?_) (some 134) rfl (by kernel_rfl) rfl (fun _ _ _ h => h) (Or.inl ⟨by rfl, ?_⟩) hS ?_
              rotate_left
              · (intro wq hq; go_simp); first | done | with_reducible rfl
              try simp only [Act.put, List.setIfInBounds_toArray, List.set_cons_zero, List.set_cons_succ]
              replace hS := Till.list 38 hS
              refine take_w (i := 45) (v := ?_) (some 141) rfl (by kernel_rfl) rfl (fun _ _ _ h => h) (Or.inl ⟨by rfl, ?_⟩) hS ?_
              rotate_left
              · (intro wq hq; go_simp); first | done | with_reducible rfl
              try simp only [Act.put, List.setIfInBounds_toArray, List.set_cons_zero, List.set_cons_succ]
              replace hS := Till.list 45 hS
              refine take_w (i := 46) (v := ?_) (some 142) rfl (by kernel_rfl) rfl (fun _ _ _ h => h) (Or.inl ⟨by rfl, ?_⟩) hS ?_
              rotate_left
              · (intro wq hq; go_simp); first | done | with_reducible rfl
              try simp only [Act.put, List.setIfInBounds_toArray, List.set_cons_zero, List.set_cons_succ]
              replace hS := Till.list 46 hS
              refine take_w (i := 39) (v := ?_) (some 135) rfl (by kernel_rfl) rfl (fun _ _ _ h => h) (Or.inl ⟨by rfl, ?_⟩) hS ?_
              rotate_left
              · (intro wq hq; go_simp); first | done | with_reducible rfl
              try simp only [Act.put, List.setIfInBounds_toArray, List.set_cons_zero, List.set_cons_succ]
              replace hS := Till.list 39 hS
              refine take_w (i := 47) (v := ?_) (some 143) rfl (by kernel_rfl) rfl (fun _ _ _ h => h) (Or.inl ⟨by rfl, ?_⟩) hS ?_
              rotate_left
              · (intro wq hq; go_simp); first | done | with_reducible rfl
              try simp only [Act.put, List.setIfInBounds_toArray, List.set_cons_zero, List.set_cons_succ]
              replace hS := Till.list 47 hS
              refine take_w (i := 40) (v := ?_) (some 136) rfl (by kernel_rfl) rfl (fun _ _ _ h => h) (Or.inl ⟨by rfl, ?_⟩) hS ?_
              rotate_left
              · (intro wq hq; go_simp); first | done | with_reducible rfl
              try simp only [Act.put, List.setIfInBounds_toArray, List.set_cons_zero, List.set_cons_succ]
              replace hS := Till.list 40 hS
              refine take_n (i := 48) (v := ?_) (some 144) rfl (by kernel_rfl) rfl (fun _ _ _ h => h) (Or.inl ⟨by rfl, ?_⟩) hS ?_
              rotate_left
              · (intro wq hq; have q0 := hq _ _ _ hc; have q1 := hq _ _ _ hd0; have q2 := hq _ _ _ hd1; have q3 := hq _ _ _ hc0; have q4 := hq _ _ _ hf0; have q5 := hq _ _ _ hf1; go_simp); first | done | with_reducible rfl
              try simp only [Act.put, List.setIfInBounds_toArray, List.set_cons_zero, List.set_cons_succ]
              replace hS := Till.list 48 hS
              refine take_n (i := 41) (v := ?_) (some 137) rfl (by kernel_rfl) rfl (fun _ _ _ h => h) (Or.inl ⟨by rfl, ?_⟩) hS ?_
              rotate_left
              · (intro wq hq; have q0 := hq _ _ _ hc; have q1 := hq _ _ _ hd0; have q2 := hq _ _ _ hd1; have q3 := hq _ _ _ hc0; have q4 := hq _ _ _ hf0; have q5 := hq _ _ _ hf1; go_simp); first | done | with_reducible rfl
              try simp only [Act.put, List.setIfInBounds_toArray, List.set_cons_zero, List.set_cons_succ]
              replace hS := Till.list 41 hS
              refine take_w (i := 49) (v := ?_) (some 145) rfl (by kernel_rfl) rfl (fun _ _ _ h => h) (Or.inl ⟨by rfl, ?_⟩) hS ?_
              rotate_left
              · (intro wq hq; go_simp); first | done | with_reducible rfl
              try simp only [Act.put, List.setIfInBounds_toArray, List.set_cons_zero, List.set_cons_succ]
              replace hS := Till.list 49 hS
              refine take_w (i := 42) (v := ?_) (some 138) rfl (by kernel_rfl) rfl (fun _ _ _ h => h) (Or.inl ⟨by rfl, ?_⟩) hS ?_
              rotate_left
              · (intro wq hq; go_simp); first | done | with_reducible rfl
              try simp only [Act.put, List.setIfInBounds_toArray, List.set_cons_zero, List.set_cons_succ]
              replace hS := Till.list 42 hS
              refine take_w (i := 50) (v := ?_) (some 146) rfl (by kernel_rfl) rfl (fun _ _ _ h => h) (Or.inl ⟨by rfl, ?_⟩) hS ?_
              rotate_left
              · (intro wq hq; go_simp); first | done | with_reducible rfl
              try simp only [Act.put, List.setIfInBounds_toArray, List.set_cons_zero, List.set_cons_succ]
              replace hS := Till.list 50 hS
              refine take_w (i := 43) (v := ?_) (some 139) rfl (by kernel_rfl) rfl (fun _ _ _ h => h) (Or.inl ⟨by rfl, ?_⟩) hS ?_
              rotate_left
              · (intro wq hq; go_simp); first | done | with_reducible rfl
              try simp only [Act.put, List.setIfInBounds_toArray, List.set_cons_zero, List.set_cons_succ]
              replace hS := Till.list 43 hS
              refine take_n (i := 51) (v := ?_) (some 147) rfl (by kernel_rfl) rfl (fun _ _ _ h => h) (Or.inl ⟨by rfl, ?_⟩) hS ?_
              rotate_left
              · (intro wq hq; have q0 := hq _ _ _ hc; have q1 := hq _ _ _ hd0; have q2 := hq _ _ _ hd1; have q3 := hq _ _ _ hc0; have q4 := hq _ _ _ hf0; have q5 := hq _ _ _ hf1; go_simp); first | done | with_reducible rfl
              try simp only [Act.put, List.setIfInBounds_toArray, List.set_cons_zero, List.set_cons_succ]
              replace hS := Till.list 51 hS
              refine take_n (i := 44) (v := ?_) (some 140) rfl (by kernel_rfl) rfl (fun _ _ _ h => h) (Or.inl ⟨by rfl, ?_⟩) hS ?_
              rotate_left
              · (intro wq hq; have q0 := hq _ _ _ hc; have q1 := hq _ _ _ hd0; have q2 := hq _ _ _ hd1; have q3 := hq _ _ _ hc0; have q4 := hq _ _ _ hf0; have q5 := hq _ _ _ hf1; go_simp); first | done | with_reducible rfl
              try simp only [Act.put, List.setIfInBounds_toArray, List.set_cons_zero, List.set_cons_succ]
              replace hS := Till.list 44 hS
              refine take_n (i := 52) (v := .bool false) (some 148) rfl (by kernel_rfl) rfl (fun _ _ _ h => h) (Or.inl ⟨by rfl, ?_⟩) hS ?_
              · (intro wq hq; (go_simp <;> simp <;> omega))
              try simp only [Act.put, List.setIfInBounds_toArray, List.set_cons_zero, List.set_cons_succ]
              replace hS := Till.list 52 hS
              refine take_w (i := 53) (v := ?_) (some 149) rfl (by kernel_rfl) rfl (fun _ _ _ h => h) (Or.inl ⟨by rfl, ?_⟩) hS ?_
              rotate_left
              · (intro wq hq; go_simp); first | done | with_reducible rfl
              try simp only [Act.put, List.setIfInBounds_toArray, List.set_cons_zero, List.set_cons_succ]
              replace hS := Till.list 53 hS
              refine take_w (i := 54) (v := ?_) (some 150) rfl (by kernel_rfl) rfl (fun _ _ _ h => h) (Or.inl ⟨by rfl, ?_⟩) hS ?_
              rotate_left
              · (intro wq hq; go_simp); first | done | with_reducible rfl
              try simp only [Act.put, List.setIfInBounds_toArray, List.set_cons_zero, List.set_cons_succ]
              replace hS := Till.list 54 hS
              refine take_w (i := 55) (v := ?_) (some 151) rfl (by kernel_rfl) rfl (fun _ _ _ h => h) (Or.inl ⟨by rfl, ?_⟩) hS ?_
              rotate_left
              · (intro wq hq; go_simp); first | done | with_reducible rfl
              try simp only [Act.put, List.setIfInBounds_toArray, List.set_cons_zero, List.set_cons_succ]
              replace hS := Till.list 55 hS
              refine done_g (by kernel_rfl) (NoPanic.normal ?_) _
              clear hS
              go_wp2_with fail
              go_roundw
              case rel => exact ⟨i + 1, by go_num, by omega, hbi2.drew⟩
              case measure => simp [intOf]; omega
        · have hii : ¬ (i : Int) < (j : Int) := by omega
          go_wp2_with fail
          go_ret
          exact ⟨rfl, Below.then hw6 hbi⟩
end Go.Proofs.Ytloohkgiicgndaa
/-
  OrderStable: for every slice of numbers the statement's function returns true, and its arguments read as they did. No condition.
-/
namespace Go.Proofs.Ytloohkgiicgndaa.orderStable
open Go.ChangeShapes Go.WideShapes Go.ChangeAt Go.RowKit
set_option linter.unusedVariables false
set_option maxRecDepth 4000

set_option maxRecDepth 100000 in
theorem lifted (os : Os) (started : os.Started) (H : Type) (enc : TypeId × Value → H) :
    ReturnsInHanded {} Try.checked os 6 .any (Rows.orderStableSpec.pre6 enc Try.prog Try.f6 Rows.orderStableRow.domain false) (Rows.orderStableSpec.post enc Try.prog Try.f6 false true false false) := by
  refine returnsInHanded_of_change (C := Try.checked) own started (by kernel_rfl) Try.func6
    (ChangeSpec.witness6 (enc := enc) (C := Try.checked) false ⟨#[], #[.slice none 0 0], []⟩ 8 (by kernel_rfl) (by kernel_rfl) (by kernel_rfl) (by kernel_rfl)) ?_
  intro W base args ds gs before hval0 hW hcnd _
  have hval : ∀ (j : Nat) t v, Try.f6.params[j]? = some t → args[j]? = some v → Value.okWide Try.prog W .any base t v := hval0
  have hW' := hW
  obtain ⟨p, q, hA0, hV, rfl, hfz, hnd⟩ := hW
  have hA : DataW.TrodAll enc Try.prog W 0 (fun _ => true) true Try.f6.params.toList args.toList ds p := hA0
  rw [Try.params6] at hA hval
  obtain ⟨v0, vs0, d0, ds0, p0, q0, hargs0, rfl, rfl, h0, r0⟩ := trodAll_cons hA
  obtain ⟨hn1, hn2, hn3⟩ := trodAll_nil r0
  subst hn2 hn3
  obtain rfl : args = #[v0] := by cases args; simp_all
  obtain ⟨rfl, rfl⟩ := trodVars_none hV
  have rd0 := h0
  have lt0 : ∀ x ∈ p0, x.block < W.heap.size := by obtain ⟨m, hm⟩ := rd0; exact DataW.trod_lt m _ _ _ hm
  obtain ⟨A0, n0, c0, l0, rfl, W0, L0, M0, R0⟩ := open_i64s (hval 0 44 v0 rfl rfl) h0
  clear hA0 hval0
  refine (stable9_is A0 n0 c0 l0 W W0 (by have := L0; have := M0; omega) R0).mono fun e W' ⟨he, bel⟩ => ?_
  subst he
  exact ⟨_, rfl, _, _, _, [], _, [], hW', trodAll_mk1 (shut_bool Try.underlying4 _), (trodAll_cons_mk (Below.trod laidOut (by kernel_rfl) (of_decide_eq_true (by kernel_rfl)) rd0 bel lt0) trodAll_mk0), rfl, bel.frame _, fun h => by cases h⟩

theorem over : Rows.orderStableRow.holds Try.pinned (OpenSpec.ofChange Rows.orderStableSpec) :=
  OpenClaim.holds_of_wide 6 Try.f6 rfl rfl rfl rfl rfl rfl rfl ⟨rfl, rfl, rfl, rfl, rfl⟩ rfl rfl rfl rfl rfl (by kernel_rfl) Try.func6 (by kernel_rfl)
    (of_decide_eq_true (by kernel_rfl)) (by unfold Func.isWrapper; first | (rw [if_pos (by decide +kernel)]; kernel_rfl) | (rw [if_neg (by decide +kernel)]; exact ⟨rfl, rfl⟩))
    (fun os started H enc _ => lifted os started H enc)
end Go.Proofs.Ytloohkgiicgndaa.orderStable
namespace Go.Proofs.Ytloohkgiicgndaa
theorem orderStable_holds : Rows.OrderStableSaid := orderStable.over
end Go.Proofs.Ytloohkgiicgndaa
