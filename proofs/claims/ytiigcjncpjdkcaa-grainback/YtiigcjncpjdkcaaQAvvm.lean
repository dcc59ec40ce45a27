/-
  GrainBack: for every shape and every list of rows the statement's function returns true, and its arguments read as they did. No condition.
-/
import Derived.Test.YtiigcjncpjdkcaaGrnB
import Derived.Test.YtiigcjncpjdkcaaGrnC
import Derived.Test.YtiigcjncpjdkcaaGrnD
import Derived.Test.YtiigcjncpjdkcaaGrnF
import Derived.Test.YtiigcjncpjdkcaaRows
import Derived.WalkKit
import Derived.ProofKit
import Derived.OpenShut
import Derived.ShutString
import Derived.ChangeOld
import Derived.Below
import Derived.Test.YtiigcjncpjdkcaaSchC
/- GrainBack: the walk. -/
namespace Go.Proofs.Ytiigcjncpjdkcaa
open Go.ChangeShapes Go.WideShapes Go.ChangeAt Go.RowKit
set_option linter.unusedVariables false
set_option maxRecDepth 4000

theorem colLB_le (l : List RowV) (k : Int) : (colL l k).length ≤ l.length := by
  unfold colL
  split
  · rw [List.length_map]; exact Nat.le_refl _
  · exact Nat.zero_le _
/-- the first columns of some rows -/
def colsT (l : List RowV) (x : Nat) : List RowV := (List.range x).map fun (k : Nat) => colL l (k : Int)
theorem colsT_snoc (l : List RowV) (x : Nat) : colsT l (x + 1) = colsT l x ++ [colL l (x : Int)] := by
  unfold colsT
  rw [List.range_succ, List.map_append]; rfl
theorem colsT_len (l : List RowV) (x : Nat) : (colsT l x).length = x := by simp [colsT]
theorem colsT_at {l : List RowV} {x T : Nat} (hx : x < T) (h : ∀ r ∈ l, r.length = T) : ((colsT l T).getD x []).length = l.length := by
  have e : (colsT l T).getD x [] = colL l (x : Int) := by simp [colsT, List.getD, hx]
  rw [e, colL_yes (fun r hr => by rw [h r hr]; omega), List.length_map]
theorem colsT_ok {l : List RowV} {T : Nat} (hT : 1 ≤ T) (h : ∀ r ∈ l, r.length = T) : OkC (colsT l T) := by
  refine ⟨fun q => ?_, fun x hx => ?_⟩
  · have := colsT_len l T
    rw [q] at this
    simp at this
    omega
  · rw [colsT_len] at hx
    rw [colsT_at hx h, colsT_at (by omega) h]
theorem el_valss' : El 40 37 1 24 (.slice none 0 0) := ⟨Try.underlying40, by kernel_rfl, rfl, by omega⟩
theorem take_gran {α : Type} (G i : Nat) (l : List α) : l.take (i * G) ++ granL G l i = l.take ((i + 1) * G) := by
  unfold granL
  rw [Nat.succ_mul, List.take_add]
set_option maxHeartbeats 16000000 in
theorem backA_is {l0 l1 l2 l3 l4 l5 l6 l7 n keys mode grain : Int} (h : ShW l0 l1 l2 l3 l4 l5 l6 l7 n keys mode grain) (R : Option Addr) (nr cr : Nat) (vss : List RowV) (w : World)
    (hr : RVs w R nr vss) (hnr : nr ≤ maxLen) (hg : ∀ v ∈ vss, RgV v) :
    Calls Try.prog 4 #[ShV l0 l1 l2 l3 l4 l5 l6 l7 n keys mode grain, .slice R nr cr] w fun e w' => e = .returned (.bool true) ∧ Below w.heap.size w w' := by
  go_enter Try.func4, Try.ntmps4
  go_wp2_with fail
  refine (shownA_is _).mono ?_
  rintro e w1 ⟨rfl, hb1⟩
  have t1 := (Bk.new w (shC l0 l1 l2 l3 l4 l5 l6 l7 n keys mode grain) 24).below hb1
  have hw1 := after1 hb1
  have hr := hr.below hw1
  clear hb1
  obtain ⟨⟨x0, x1, x2, x3⟩, ⟨x4, x5, x6, x7⟩, ⟨x8, x9, x10, x11⟩⟩ := t1.shape
  go_wp2_with fail
  refine (madeA_good h _).mono ?_
  rintro e w2 ⟨A, N, C, K, m, g, ts, rfl, hk, hN, ho, hb2⟩
  clear x0 x1 x2 x3 x4 x5 x6 x7 x8 x9 x10 x11 t1
  obtain ⟨_, _, hA, hC1, hC2, hv, -⟩ := ho.sv
  cases hA
  obtain ⟨G, rfl⟩ : ∃ G : Nat, g = (G : Int) := ⟨g.toNat, by have := (check_is hk).2.2.2.2.2.2.1; omega⟩
  have hG : 1 ≤ G ∧ G ≤ 64 := by have h1 := (check_is hk).2.2.2.2.2.2.1; have h2 := (check_is hk).2.2.2.2.2.2.2.1; omega
  have hkk := Lib.hid (MadeG.keys hk)
  have hty : Hid (Ty ts) := Lib.hid (check_is hk).2.2.2.2.2.2.2.2
  have hlt := Lib.hid (IV.len hv)
  have hx := Sx.new w2 A N C K m (G : Int) 29
  have hr := (hr.below hb2).alloc (.cells #[.slice A N C, .int .i64 K, .int .i64 m, .int .i64 (G : Int)] 29)
  have hv := hv.alloc (.cells #[.slice A N C, .int .i64 K, .int .i64 m, .int .i64 (G : Int)] 29)
  have hw := (Below.then hw1 hb2).alloc (by have := (Below.then hw1 hb2).size; omega) (.cells #[.slice A N C, .int .i64 K, .int .i64 m, .int .i64 (G : Int)] 29)
  have hN1 : N ≤ maxLen := few_max (by omega)
  have hK1 : K ≤ maxLen := few_max (by have := hkk.out; omega)
  obtain ⟨c0, c1, c2, c3⟩ := id hx
  go_wp2_with fail
  clear c0 c1 c2 c3
  generalize w2.alloc (.cells #[.slice A N C, .int .i64 K, .int .i64 m, .int .i64 (G : Int)] 29) = w3 at *
  generalize w2.heap.size = bs at *
  clear ho hb2 hw1 hk
  have hF := fitsL_fr hty.out hg 60
  have hfl := fitsL_len ts vss 60
  obtain ⟨fs, hfs⟩ : ∃ fs, fitsL ts vss 60 = fs := ⟨_, rfl⟩
  refine (fits_rows A N C ts K m (G : Int) R nr cr vss 60 w3 hv (by omega) hr hnr (by omega)).mono ?_
  rw [hfs] at hF hfl ⊢
  rintro e w4 ⟨j, v4, rfl, hj, o4, hb4⟩
  have hv4 := hv.below hb4
  have hx4 := hx.below hb4
  have hw4 := Below.then hw hb4
  obtain ⟨a4, c4, rfl, rv4⟩ := o4.rvs
  have hFK : Hid (∀ v ∈ fs, K ≤ v.length ∧ v.length ≤ 100000) := Lib.hid (fun v hvm => by
    have h1 := (hF v hvm).len
    have h2 := hkk.out
    have h3 := hlt.out
    omega)
  clear hv hx hw hb4 o4 hr hfs
  have hFN : Hid (∀ r ∈ fs, r.length = N) := Lib.hid (fun v hvm => by have h1 := (hF v hvm).len; have h3 := hlt.out; omega)
  have hN1' : 1 ≤ N := by have h2 := hkk.out; have h3 := hlt.out; omega
  have hKN : K ≤ N := by have h2 := hkk.out; have h3 := hlt.out; omega
  have hll : Hid (fs.length = j) := rv4.1
  have or0 : OwnRows (w4.alloc (.cells #[] 37)) w4.heap.size (.slice (some ⟨w4.heap.size, 0, none⟩) 0 0) 0 (colsT fs 0) := ⟨[], OS.lit (k := 1) w4 w4.heap.size (Nat.le_refl _) [] 0 37 rfl (by simp) (by simp) _ rfl, rfl, fun i hi => by omega⟩
  have hb0 := Joins.below_alloc1 w4 (.cells #[] 37)
  clear hF hFK
  go_wp2_with fail
  go_loopw [8, 9] (fun o i wr => ∃ (x : Nat), x ≤ N ∧ i = .int .i64 (x : Int) ∧ OwnRows wr w4.heap.size o x (colsT fs x) ∧ Below w4.heap.size w4 wr) (fun _ i _ => N - (intOf i).toNat)
  case atStart => exact ⟨0, by omega, rfl, or0, hb0⟩
  case round =>
    clear or0 hb0
    obtain ⟨x, hx1, rfl, orr, hb⟩ := hrel
    obtain ⟨c0, c1, c2, c3⟩ := hx4.below hb
    by_cases hlx : x < N
    · have hxi : (x : Int) < (N : Int) := by omega
      go_wp2_with fail
      refine (gcolumn_any a4 j c4 fs (x : Int) _ (rv4.below hb) (by omega)).mono ?_
      rintro e w5 ⟨v5, rfl, o5, hb5⟩
      have HS := Lib.hid (colsT_snoc fs x)
      obtain ⟨a5, c5, rfl⟩ := o5.shape
      have ro5 : RO w5 u8.ownBlock (.slice a5 (colL fs (x : Int)).length c5) (colL fs (x : Int)) := RO.own o5 (fun b hb => by have := orr.lt b hb; exact this)
      have or5 := orr.below hb5
      have hb2 := Below.then hb hb5
      obtain ⟨cl, hcl⟩ : ∃ cl, colL fs (x : Int) = cl := ⟨_, rfl⟩
      rw [hcl] at ro5 HS ⊢
      clear hcl orr o5 hb hb5 c0 c1 c2 c3
      generalize colsT fs x = ct at or5 HS
      obtain ⟨cs, ocs, hlr, hro⟩ := or5
      have ho6 := ocs.alloc (.cells #[.slice a5 cl.length c5] 37)
      have hcl2 : cs.length = x := by have := ocs.1; omega
      have hsv : SV 1 (w5.alloc (.cells #[.slice a5 cl.length c5] 37)) (some ⟨w5.heap.size, 0, none⟩) 1 [.slice a5 cl.length c5] := SV.lit' (k := 1) w5 [.slice a5 cl.length c5] 1 37 rfl (by simp [Value.oneCell']) _ rfl
      have hbase : w4.heap.size ≤ (w5.alloc (.cells #[.slice a5 cl.length c5] 37)).heap.size := by have := hb2.size; rw [heap_alloc]; omega
      have hx8 : x ≤ 8 := by omega
      go_wp2_with (at_builtin; refine append_os2 el_valss' rfl (.tmp 34) (.tmp 38) rfl w4.heap.size u8 x _ rfl ho6 _ 1 1 [.slice a5 cl.length c5] rfl hsv (by omega) (by omega) hbase ?_; intro v6 w6 ho7 hb6 hk6 hst6)
      have hba := Joins.below_alloc1 w5 (.cells #[.slice a5 cl.length c5] 37)
      have or6 := OwnRows.snoc (v := u8) ho7 hlr hcl2 (fun i hi => (hro i hi).below hba) (ro5.below hba) hk6 hst6
      have hb7 := (hb2.alloc hb2.size (.cells #[.slice a5 cl.length c5] 37)).trans hb6
      clear ho6 ho7 hb6 hk6 hst6 hba ro5 hro ocs hlr hcl2 cs hb2 hsv hbase
      rw [← HS.out] at or6
      go_roundw
      case rel => exact ⟨x + 1, by omega, by go_num, or6, hb7⟩
      case measure => simp [intOf]; omega
    · have hxi : ¬ (x : Int) < (N : Int) := by omega
      obtain rfl : N = x := by omega
      obtain ⟨a5, c5, rfl, rv5⟩ := orr.rvs
      have hv5 := hv4.below hb
      have hx5 := hx4.below hb
      have rw5 := rv4.below hb
      have hw5 := Below.then hw4 hb
      clear orr
      go_wp2_with fail
      clear c0 c1 c2 c3 hb hv4 hx4 rv4 hw4
      have hc0 : ((colsT fs N).getD 0 []).length = j := by rw [colsT_at (by omega) hFN.out]; exact hll.out
      refine (grows_any a5 N c5 (colsT fs N) _ rv5 (by omega) (by omega)).mono ?_
      rintro e w6 ⟨he, hb6⟩
      rcases he with ⟨-, A6, C6, rfl, h61, h62, h63, bk6⟩ | ⟨hbad, -⟩
      case inr => exact absurd (colsT_ok hN1' hFN.out) hbad
      rw [hc0] at h61 bk6 ⊢
      have hrb := rows_back hFN.out
      rw [hll.out] at hrb
      rw [show colsT fs N = (List.range N).map fun (k : Nat) => colL fs (k : Int) from rfl, hrb] at bk6
      have hv6 := hv5.below hb6
      have hx6 := hx5.below hb6
      have rv6 := rw5.below hb6
      have hw6 := Below.then hw5 hb6
      clear hrb hc0 rv5 hv5 hx5 rw5 hw5 hb6
      go_wp2_with fail
      refine (rrows_any A6 j C6 fs a4 j c4 fs _ bk6 rv6 (few_max (by omega)) (few_max (by omega))).mono ?_
      rw [decide_eq_true (rfl : fs = fs)]
      rintro e w7 ⟨rfl, hb7⟩
      have hv7 := hv6.below hb7
      have hx7 := hx6.below hb7
      have rv7 := rv6.below hb7
      have hw7 := Below.then hw6 hb7
      clear bk6 hv6 hx6 rv6 hw6 hb7
      obtain ⟨c0, c1, c2, c3⟩ := id hx7
      go_wp2_with fail
      clear c0 c1 c2 c3
      refine (gsplit_any A N C K m G a4 j c4 fs _ rv7 (by omega) hG.1 (by omega)).mono ?_
      rintro e w8 ⟨A8, C8, rfl, h81, h82, g8, hb8⟩
      have hv8 := hv7.below hb8
      have hx8 := hx7.below hb8
      have rv8 := rv7.below hb8
      have hw8 := Below.then hw7 hb8
      clear hv7 hx7 rv7 hw7 hb8
      have hqj := cnt_le G j hG.1
      obtain ⟨q, hq⟩ : ∃ q, cntG G j = q := ⟨_, rfl⟩
      rw [hq] at g8 h81 hqj ⊢
      have HQ := Lib.hid hq
      clear hq
      have HFK : Hid (∀ v ∈ fs, K ≤ v.length) := Lib.hid (fun v hvm => by rw [hFN.out v hvm]; exact hKN)
      obtain ⟨c0, c1, c2, c3⟩ := id hx8
      go_wp2_with fail
      clear c0 c1 c2 c3
      refine (gmarks_any A N C K m G a4 j c4 fs _ rv8 (by omega) hG.1 (by omega) HFK.out).mono ?_
      rw [HQ.out]
      rintro e w9 ⟨A9, C9, rfl, h91, h92, m9, hb9⟩
      have hx9 := hx8.below hb9
      have rv9 := rv8.below hb9
      have g9 := g8.below hb9
      have hw9 := Below.then hw8 hb9
      clear hv8 hx8 rv8 hw8 hb9 g8
      have o9 : OS 1 (w9.alloc (.cells #[] 43)) w9.heap.size (.slice (some ⟨w9.heap.size, 0, none⟩) 0 0) 0 [] := OS.lit (k := 1) w9 w9.heap.size (Nat.le_refl _) [] 0 43 rfl (by simp) (by simp) _ rfl
      have hb0 := Joins.below_alloc1 w9 (.cells #[] 43)
      obtain ⟨c0, c1, c2, c3⟩ := hx9.below hb0
      have hw1' : IntKind.i64.wrap ((j : Int) + (G : Int)) = (j : Int) + (G : Int) := by rw [IntKind.wrap_i64]; omega
      have hw2' : IntKind.i64.wrap ((j : Int) + (G : Int) - 1) = (j : Int) + (G : Int) - 1 := by rw [IntKind.wrap_i64]; omega
      have hquo : ((j : Int) + (G : Int) - 1) / (G : Int) = (q : Int) := by
        rw [← HQ.out]
        unfold cntG
        rw [show (j : Int) + (G : Int) - 1 = ((j + G - 1 : Nat) : Int) by omega]
        exact (Int.natCast_ediv _ _).symm
      go_wp2_with fail
      clear c0 c1 c2 c3 hw1' hw2' hquo
      go_loopw [15, 16] (fun o i wr => ∃ (x m0 : Nat) (es : List P9), x ≤ q ∧ i = .int .i64 (x : Int) ∧ m0 ≤ 60 ∧ OS 1 wr w9.heap.size o m0 (pc es) ∧ Hid (es.map (·.2) = fs.take (x * G)) ∧ PR w9 es ∧ Below w9.heap.size w9 wr) (fun _ i _ => q - (intOf i).toNat)
      case atStart => exact ⟨0, 0, [], by omega, rfl, by omega, o9, Lib.hid (by simp), (fun p hp => by cases hp), hb0⟩
      case round =>
        clear o9 hb0
        obtain ⟨x, m0, es, hxq, rfl, hm0, ho, has, hpa, hb⟩ := hrel
        obtain ⟨w11, e11⟩ : ∃ z, z = wr := ⟨wr, rfl⟩
        subst e11
        by_cases hlx : x < q
        · have hxi : (x : Int) < (q : Int) := by omega
          obtain ⟨b5, f5, u, rfl, hc5, hu5⟩ := g9.at x hlx
          rw [splitL_at (by rw [hll.out, HQ.out]; exact hlx)] at hu5
          obtain ⟨B5, L5, D5, rfl, h55, h56, h57, s5⟩ := hu5
          have hgi := gran_in hG.1 (l := fs) (i := x) (by rw [hll.out, HQ.out]; exact hlx)
          have hgl := s5.1
          rw [hgl, hll.out, HQ.out] at hgi
          obtain ⟨b6, f6, u6', rfl, hcr, hur⟩ := s5.at 0 (by omega)
          have hg0 := gran_at (G := G) (l := fs) (i := x) (k := 0) ([] : RowV) (by omega)
          rw [hg0] at hur
          rw [Nat.add_zero] at hur hcr
          obtain ⟨A3, L3, C3, rfl, r31, r32, r33, r34, r35⟩ := hur.1
          have hxG : x * G < fs.length := by have := (cnt_lt (i := x) (n := j) hG.1).1 (by rw [HQ.out]; exact hlx); rw [hll.out]; exact this
          have hL3 : L3 = N := by
            rw [← r33]
            have e : fs.getD (x * G) [] = fs[x * G] := by simp [List.getD, hxG]
            rw [e]; exact hFN.out _ (List.getElem_mem _)
          obtain ⟨b7, f7, A7, L7, C7, rfl, hcm, hL7, wm7⟩ := m9.at x hlx
          rw [marksL_at (by rw [hll.out, HQ.out]; exact hlx)] at wm7
          obtain ⟨gs, hs1, hs2, hs3⟩ := s5.rvs.pairs
          have HGS := Lib.hid hs2
          have hcut := SV.slice_hi slA_row r34 K C3 (by omega) r31
          rw [show (vcells (fs.getD (x * G) [])).take (K * 2) = vcells ((fs.getD (x * G) []).take K) from (vcells_take _ K).symm] at hcut
          obtain ⟨a10, hsl, wk10⟩ := hcut
          have c5 := keepc hc5 hb
          have cr := keepc hcr hb
          have cm := keepc hcm hb
          have hLK : ¬ (L3 : Int) < (K : Int) := by omega
          have hLG : ¬ (L5 : Int) > (G : Int) := by omega
          have hLn : ¬ (L5 : Int) < 1 := by omega
          have hwq : IntKind.i64.wrap ((q : Int) - 1) = (q : Int) - 1 := by rw [IntKind.wrap_i64]; omega
          obtain ⟨c0, c1, c2, c3⟩ := hx9.below hb
          have hx19 : ((x : Int) < (q : Int) - 1 ∧ (L5 : Int) = (G : Int)) ∨ ¬ (x : Int) < (q : Int) - 1 := by
            by_cases hx1 : x + 1 < q
            · exact .inl ⟨by omega, by have := hgi.2.2 hx1; omega⟩
            · exact .inr (by omega)
          have hgl := gran_len G fs x
          rw [s5.1] at hgl
          clear hgi hg0 hur hs2
          have hKL : K ≤ L3 := by omega
          have hL60 : L5 ≤ 60 := by have h1 := hgl; omega
          clear hgl
          replace hL3 := Lib.hid hL3
          go_wp2_with fail
          rcases hx19 with ⟨hxa, hxb⟩ | hxa
          · replace hxb : ¬ (L5 : Int) ≠ (G : Int) := fun q => q hxb
            refine wp_region_noPanic ?_
            refine region_g 45 (Ext (World.drew _)) (by kernel_rfl) (Ext.refl _) (fun hS => ?_)
            refine take_w (i := 0) (v := ?_) (some 88) rfl (by kernel_rfl) rfl (fun _ _ _ h => h) (Or.inl ⟨by rfl, ?_⟩) hS ?_
            rotate_left
            · (intro wq hq; go_simp); first | done | with_reducible rfl
            try simp only [Act.put, List.setIfInBounds_toArray, List.set_cons_zero, List.set_cons_succ]
            replace hS := Till.list 0 hS
            refine take_w (i := 1) (v := ?_) (some 89) rfl (by kernel_rfl) rfl (fun _ _ _ h => h) (Or.inl ⟨by rfl, ?_⟩) hS ?_
            rotate_left
            · (intro wq hq; go_simp); first | done | with_reducible rfl
            try simp only [Act.put, List.setIfInBounds_toArray, List.set_cons_zero, List.set_cons_succ]
            replace hS := Till.list 1 hS
            refine take_w (i := 2) (v := ?_) (some 90) rfl (by kernel_rfl) rfl (fun _ _ _ h => h) (Or.inl ⟨by rfl, ?_⟩) hS ?_
            rotate_left
            · (intro wq hq; go_simp); first | done | with_reducible rfl
            try simp only [Act.put, List.setIfInBounds_toArray, List.set_cons_zero, List.set_cons_succ]
            replace hS := Till.list 2 hS
            refine take_n (i := 3) (v := ?_) (some 91) rfl (by kernel_rfl) rfl (fun _ _ _ h => h) (Or.inl ⟨by rfl, ?_⟩) hS ?_
            rotate_left
            · (intro wq hq; have q0 := hq _ _ _ c0; have q1 := hq _ _ _ c1; have q2 := hq _ _ _ c2; have q3 := hq _ _ _ c3; have q4 := hq _ _ _ c5; have q5 := hq _ _ _ cr; go_simp); first | done | with_reducible rfl
            try simp only [Act.put, List.setIfInBounds_toArray, List.set_cons_zero, List.set_cons_succ]
            replace hS := Till.list 3 hS
            refine take_w (i := 4) (v := ?_) (some 92) rfl (by kernel_rfl) rfl (fun _ _ _ h => h) (Or.inl ⟨by rfl, ?_⟩) hS ?_
            rotate_left
            · (intro wq hq; go_simp); first | done | with_reducible rfl
            try simp only [Act.put, List.setIfInBounds_toArray, List.set_cons_zero, List.set_cons_succ]
            replace hS := Till.list 4 hS
            refine take_n (i := 5) (v := .bool false) (some 93) rfl (by kernel_rfl) rfl (fun _ _ _ h => h) (Or.inl ⟨by rfl, ?_⟩) hS ?_
            · (intro wq hq; (go_simp <;> omega))
            try simp only [Act.put, List.setIfInBounds_toArray, List.set_cons_zero, List.set_cons_succ]
            replace hS := Till.list 5 hS
            refine take_w (i := 6) (v := ?_) (some 94) rfl (by kernel_rfl) rfl (fun _ _ _ h => h) (Or.inl ⟨by rfl, ?_⟩) hS ?_
            rotate_left
            · (intro wq hq; go_simp); first | done | with_reducible rfl
            try simp only [Act.put, List.setIfInBounds_toArray, List.set_cons_zero, List.set_cons_succ]
            replace hS := Till.list 6 hS
            refine take_w (i := 7) (v := ?_) (some 95) rfl (by kernel_rfl) rfl (fun _ _ _ h => h) (Or.inl ⟨by rfl, ?_⟩) hS ?_
            rotate_left
            · (intro wq hq; go_simp); first | done | with_reducible rfl
            try simp only [Act.put, List.setIfInBounds_toArray, List.set_cons_zero, List.set_cons_succ]
            replace hS := Till.list 7 hS
            refine take_w (i := 8) (v := ?_) (some 96) rfl (by kernel_rfl) rfl (fun _ _ _ h => h) (Or.inl ⟨by rfl, ?_⟩) hS ?_
            rotate_left
            · (intro wq hq; go_simp); first | done | with_reducible rfl
            try simp only [Act.put, List.setIfInBounds_toArray, List.set_cons_zero, List.set_cons_succ]
            replace hS := Till.list 8 hS
            refine take_w (i := 12) (v := ?_) (some 100) rfl (by kernel_rfl) rfl (fun _ _ _ h => h) (Or.inl ⟨by rfl, ?_⟩) hS ?_
            rotate_left
            · (intro wq hq; go_simp); first | done | with_reducible rfl
            try simp only [Act.put, List.setIfInBounds_toArray, List.set_cons_zero, List.set_cons_succ]
            replace hS := Till.list 12 hS
            refine take_w (i := 9) (v := ?_) (some 97) rfl (by kernel_rfl) rfl (fun _ _ _ h => h) (Or.inl ⟨by rfl, ?_⟩) hS ?_
            rotate_left
            · (intro wq hq; go_simp); first | done | with_reducible rfl
            try simp only [Act.put, List.setIfInBounds_toArray, List.set_cons_zero, List.set_cons_succ]
            replace hS := Till.list 9 hS
            refine take_n (i := 13) (v := ?_) (some 101) rfl (by kernel_rfl) rfl (fun _ _ _ h => h) (Or.inl ⟨by rfl, ?_⟩) hS ?_
            rotate_left
            · (intro wq hq; have q0 := hq _ _ _ c0; have q1 := hq _ _ _ c1; have q2 := hq _ _ _ c2; have q3 := hq _ _ _ c3; have q4 := hq _ _ _ c5; have q5 := hq _ _ _ cr; go_simp); first | done | with_reducible rfl
            try simp only [Act.put, List.setIfInBounds_toArray, List.set_cons_zero, List.set_cons_succ]
            replace hS := Till.list 13 hS
            refine take_n (i := 10) (v := ?_) (some 98) rfl (by kernel_rfl) rfl (fun _ _ _ h => h) (Or.inl ⟨by rfl, ?_⟩) hS ?_
            rotate_left
            · (intro wq hq; have q0 := hq _ _ _ c0; have q1 := hq _ _ _ c1; have q2 := hq _ _ _ c2; have q3 := hq _ _ _ c3; have q4 := hq _ _ _ c5; have q5 := hq _ _ _ cr; go_simp); first | done | with_reducible rfl
            try simp only [Act.put, List.setIfInBounds_toArray, List.set_cons_zero, List.set_cons_succ]
            replace hS := Till.list 10 hS
            refine take_w (i := 11) (v := ?_) (some 99) rfl (by kernel_rfl) rfl (fun _ _ _ h => h) (Or.inl ⟨by rfl, ?_⟩) hS ?_
            rotate_left
            · (intro wq hq; go_simp); first | done | with_reducible rfl
            try simp only [Act.put, List.setIfInBounds_toArray, List.set_cons_zero, List.set_cons_succ]
            replace hS := Till.list 11 hS
            refine take_n (i := 14) (v := .bool false) (some 102) rfl (by kernel_rfl) rfl (fun _ _ _ h => h) (Or.inl ⟨by rfl, ?_⟩) hS ?_
            · (intro wq hq; (go_simp <;> omega))
            try simp only [Act.put, List.setIfInBounds_toArray, List.set_cons_zero, List.set_cons_succ]
            replace hS := Till.list 14 hS
            refine take_w (i := 15) (v := ?_) (some 103) rfl (by kernel_rfl) rfl (fun _ _ _ h => h) (Or.inl ⟨by rfl, ?_⟩) hS ?_
            rotate_left
            · (intro wq hq; go_simp); first | done | with_reducible rfl
            try simp only [Act.put, List.setIfInBounds_toArray, List.set_cons_zero, List.set_cons_succ]
            replace hS := Till.list 15 hS
            refine take_w (i := 16) (v := ?_) (some 104) rfl (by kernel_rfl) rfl (fun _ _ _ h => h) (Or.inl ⟨by rfl, ?_⟩) hS ?_
            rotate_left
            · (intro wq hq; go_simp); first | done | with_reducible rfl
            try simp only [Act.put, List.setIfInBounds_toArray, List.set_cons_zero, List.set_cons_succ]
            replace hS := Till.list 16 hS
            refine take_w (i := 17) (v := ?_) (some 105) rfl (by kernel_rfl) rfl (fun _ _ _ h => h) (Or.inl ⟨by rfl, ?_⟩) hS ?_
            rotate_left
            · (intro wq hq; go_simp); first | done | with_reducible rfl
            try simp only [Act.put, List.setIfInBounds_toArray, List.set_cons_zero, List.set_cons_succ]
            replace hS := Till.list 17 hS
            refine take_w (i := 18) (v := ?_) (some 106) rfl (by kernel_rfl) rfl (fun _ _ _ h => h) (Or.inl ⟨by rfl, ?_⟩) hS ?_
            rotate_left
            · (intro wq hq; go_simp); first | done | with_reducible rfl
            try simp only [Act.put, List.setIfInBounds_toArray, List.set_cons_zero, List.set_cons_succ]
            replace hS := Till.list 18 hS
            refine take_w (i := 19) (v := ?_) (some 107) rfl (by kernel_rfl) rfl (fun _ _ _ h => h) (Or.inl ⟨by rfl, ?_⟩) hS ?_
            rotate_left
            · (intro wq hq; go_simp); first | done | with_reducible rfl
            try simp only [Act.put, List.setIfInBounds_toArray, List.set_cons_zero, List.set_cons_succ]
            replace hS := Till.list 19 hS
            refine take_n (i := 20) (v := .int .i64 ((q : Int) - 1)) (some 108) rfl (by kernel_rfl) rfl (fun _ _ _ h => h) (Or.inl ⟨by rfl, ?_⟩) hS ?_
            · (intro wq hq; (go_simp))
            try simp only [Act.put, List.setIfInBounds_toArray, List.set_cons_zero, List.set_cons_succ]
            replace hS := Till.list 20 hS
            refine take_n (i := 21) (v := .bool true) (some 109) rfl (by kernel_rfl) rfl (fun _ _ _ h => h) (Or.inl ⟨by rfl, ?_⟩) hS ?_
            · (intro wq hq; (go_simp <;> omega))
            try simp only [Act.put, List.setIfInBounds_toArray, List.set_cons_zero, List.set_cons_succ]
            replace hS := Till.list 21 hS
            refine take_w (i := 22) (v := ?_) (some 110) rfl (by kernel_rfl) rfl (fun _ _ _ h => h) (Or.inl ⟨by rfl, ?_⟩) hS ?_
            rotate_left
            · (intro wq hq; go_simp); first | done | with_reducible rfl
            try simp only [Act.put, List.setIfInBounds_toArray, List.set_cons_zero, List.set_cons_succ]
            replace hS := Till.list 22 hS
            refine take_w (i := 23) (v := ?_) (some 111) rfl (by kernel_rfl) rfl (fun _ _ _ h => h) (Or.inl ⟨by rfl, ?_⟩) hS ?_
            rotate_left
            · (intro wq hq; go_simp); first | done | with_reducible rfl
            try simp only [Act.put, List.setIfInBounds_toArray, List.set_cons_zero, List.set_cons_succ]
            replace hS := Till.list 23 hS
            refine take_w (i := 24) (v := ?_) (some 112) rfl (by kernel_rfl) rfl (fun _ _ _ h => h) (Or.inl ⟨by rfl, ?_⟩) hS ?_
            rotate_left
            · (intro wq hq; go_simp); first | done | with_reducible rfl
            try simp only [Act.put, List.setIfInBounds_toArray, List.set_cons_zero, List.set_cons_succ]
            replace hS := Till.list 24 hS
            refine take_w (i := 28) (v := ?_) (some 116) rfl (by kernel_rfl) rfl (fun _ _ _ h => h) (Or.inl ⟨by rfl, ?_⟩) hS ?_
            rotate_left
            · (intro wq hq; go_simp); first | done | with_reducible rfl
            try simp only [Act.put, List.setIfInBounds_toArray, List.set_cons_zero, List.set_cons_succ]
            replace hS := Till.list 28 hS
            refine take_w (i := 25) (v := ?_) (some 113) rfl (by kernel_rfl) rfl (fun _ _ _ h => h) (Or.inl ⟨by rfl, ?_⟩) hS ?_
            rotate_left
            · (intro wq hq; go_simp); first | done | with_reducible rfl
            try simp only [Act.put, List.setIfInBounds_toArray, List.set_cons_zero, List.set_cons_succ]
            replace hS := Till.list 25 hS
            refine take_n (i := 29) (v := ?_) (some 117) rfl (by kernel_rfl) rfl (fun _ _ _ h => h) (Or.inl ⟨by rfl, ?_⟩) hS ?_
            rotate_left
            · (intro wq hq; have q0 := hq _ _ _ c0; have q1 := hq _ _ _ c1; have q2 := hq _ _ _ c2; have q3 := hq _ _ _ c3; have q4 := hq _ _ _ c5; have q5 := hq _ _ _ cr; go_simp); first | done | with_reducible rfl
            try simp only [Act.put, List.setIfInBounds_toArray, List.set_cons_zero, List.set_cons_succ]
            replace hS := Till.list 29 hS
            refine take_n (i := 26) (v := ?_) (some 114) rfl (by kernel_rfl) rfl (fun _ _ _ h => h) (Or.inl ⟨by rfl, ?_⟩) hS ?_
            rotate_left
            · (intro wq hq; have q0 := hq _ _ _ c0; have q1 := hq _ _ _ c1; have q2 := hq _ _ _ c2; have q3 := hq _ _ _ c3; have q4 := hq _ _ _ c5; have q5 := hq _ _ _ cr; go_simp); first | done | with_reducible rfl
            try simp only [Act.put, List.setIfInBounds_toArray, List.set_cons_zero, List.set_cons_succ]
            replace hS := Till.list 26 hS
            refine take_w (i := 27) (v := ?_) (some 115) rfl (by kernel_rfl) rfl (fun _ _ _ h => h) (Or.inl ⟨by rfl, ?_⟩) hS ?_
            rotate_left
            · (intro wq hq; go_simp); first | done | with_reducible rfl
            try simp only [Act.put, List.setIfInBounds_toArray, List.set_cons_zero, List.set_cons_succ]
            replace hS := Till.list 27 hS
            refine take_n (i := 30) (v := .bool false) (some 118) rfl (by kernel_rfl) rfl (fun _ _ _ h => h) (Or.inl ⟨by rfl, ?_⟩) hS ?_
            · (intro wq hq; (go_simp <;> omega))
            try simp only [Act.put, List.setIfInBounds_toArray, List.set_cons_zero, List.set_cons_succ]
            replace hS := Till.list 30 hS
            refine take_w (i := 31) (v := ?_) (some 119) rfl (by kernel_rfl) rfl (fun _ _ _ h => h) (Or.inl ⟨by rfl, ?_⟩) hS ?_
            rotate_left
            · (intro wq hq; go_simp); first | done | with_reducible rfl
            try simp only [Act.put, List.setIfInBounds_toArray, List.set_cons_zero, List.set_cons_succ]
            replace hS := Till.list 31 hS
            refine take_w (i := 32) (v := ?_) (some 120) rfl (by kernel_rfl) rfl (fun _ _ _ h => h) (Or.inl ⟨by rfl, ?_⟩) hS ?_
            rotate_left
            · (intro wq hq; go_simp); first | done | with_reducible rfl
            try simp only [Act.put, List.setIfInBounds_toArray, List.set_cons_zero, List.set_cons_succ]
            replace hS := Till.list 32 hS
            refine take_w (i := 33) (v := ?_) (some 121) rfl (by kernel_rfl) rfl (fun _ _ _ h => h) (Or.inl ⟨by rfl, ?_⟩) hS ?_
            rotate_left
            · (intro wq hq; go_simp); first | done | with_reducible rfl
            try simp only [Act.put, List.setIfInBounds_toArray, List.set_cons_zero, List.set_cons_succ]
            replace hS := Till.list 33 hS
            refine take_w (i := 34) (v := ?_) (some 122) rfl (by kernel_rfl) rfl (fun _ _ _ h => h) (Or.inl ⟨by rfl, ?_⟩) hS ?_
            rotate_left
            · (intro wq hq; go_simp); first | done | with_reducible rfl
            try simp only [Act.put, List.setIfInBounds_toArray, List.set_cons_zero, List.set_cons_succ]
            replace hS := Till.list 34 hS
            refine take_w (i := 35) (v := ?_) (some 123) rfl (by kernel_rfl) rfl (fun _ _ _ h => h) (Or.inl ⟨by rfl, ?_⟩) hS ?_
            rotate_left
            · (intro wq hq; go_simp); first | done | with_reducible rfl
            try simp only [Act.put, List.setIfInBounds_toArray, List.set_cons_zero, List.set_cons_succ]
            replace hS := Till.list 35 hS
            refine take_w (i := 36) (v := ?_) (some 124) rfl (by kernel_rfl) rfl (fun _ _ _ h => h) (Or.inl ⟨by rfl, ?_⟩) hS ?_
            rotate_left
            · (intro wq hq; go_simp); first | done | with_reducible rfl
            try simp only [Act.put, List.setIfInBounds_toArray, List.set_cons_zero, List.set_cons_succ]
            replace hS := Till.list 36 hS
            refine take_n (i := 37) (v := ?_) (some 125) rfl (by kernel_rfl) rfl (fun _ _ _ h => h) (Or.inl ⟨by rfl, ?_⟩) hS ?_
            rotate_left
            · (intro wq hq; have q0 := hq _ _ _ c0; have q1 := hq _ _ _ c1; have q2 := hq _ _ _ c2; have q3 := hq _ _ _ c3; have q4 := hq _ _ _ c5; have q5 := hq _ _ _ cr; go_simp); first | done | with_reducible rfl
            try simp only [Act.put, List.setIfInBounds_toArray, List.set_cons_zero, List.set_cons_succ]
            replace hS := Till.list 37 hS
            refine take_n (i := 38) (v := .pointer (some ⟨b6, f6, none⟩)) (some 126) rfl (by kernel_rfl) rfl (fun _ _ _ h => h) (Or.inl ⟨by rfl, ?_⟩) hS ?_
            · (intro wq hq; (go_simp; intro h; exfalso; omega))
            try simp only [Act.put, List.setIfInBounds_toArray, List.set_cons_zero, List.set_cons_succ]
            replace hS := Till.list 38 hS
            refine take_n (i := 39) (v := ?_) (some 127) rfl (by kernel_rfl) rfl (fun _ _ _ h => h) (Or.inl ⟨by rfl, ?_⟩) hS ?_
            rotate_left
            · (intro wq hq; have q0 := hq _ _ _ c0; have q1 := hq _ _ _ c1; have q2 := hq _ _ _ c2; have q3 := hq _ _ _ c3; have q4 := hq _ _ _ c5; have q5 := hq _ _ _ cr; go_simp); first | done | with_reducible rfl
            try simp only [Act.put, List.setIfInBounds_toArray, List.set_cons_zero, List.set_cons_succ]
            replace hS := Till.list 39 hS
            refine take_w (i := 41) (v := ?_) (some 129) rfl (by kernel_rfl) rfl (fun _ _ _ h => h) (Or.inl ⟨by rfl, ?_⟩) hS ?_
            rotate_left
            · (intro wq hq; go_simp); first | done | with_reducible rfl
            try simp only [Act.put, List.setIfInBounds_toArray, List.set_cons_zero, List.set_cons_succ]
            replace hS := Till.list 41 hS
            refine take_w (i := 40) (v := ?_) (some 128) rfl (by kernel_rfl) rfl (fun _ _ _ h => h) (Or.inl ⟨by rfl, ?_⟩) hS ?_
            rotate_left
            · (intro wq hq; go_simp); first | done | with_reducible rfl
            try simp only [Act.put, List.setIfInBounds_toArray, List.set_cons_zero, List.set_cons_succ]
            replace hS := Till.list 40 hS
            refine take_n (i := 42) (v := ?_) (some 130) rfl (by kernel_rfl) rfl (fun _ _ _ h => h) (Or.inl ⟨by rfl, ?_⟩) hS ?_
            rotate_left
            · (intro wq hq; have q0 := hq _ _ _ c0; have q1 := hq _ _ _ c1; have q2 := hq _ _ _ c2; have q3 := hq _ _ _ c3; have q4 := hq _ _ _ c5; have q5 := hq _ _ _ cr; go_simp); first | done | with_reducible rfl
            try simp only [Act.put, List.setIfInBounds_toArray, List.set_cons_zero, List.set_cons_succ]
            replace hS := Till.list 42 hS
            refine take_n (i := 43) (v := .bool false) (some 131) rfl (by kernel_rfl) rfl (fun _ _ _ h => h) (Or.inl ⟨by rfl, ?_⟩) hS ?_
            · (intro wq hq; (go_simp <;> omega))
            try simp only [Act.put, List.setIfInBounds_toArray, List.set_cons_zero, List.set_cons_succ]
            replace hS := Till.list 43 hS
            refine take_w (i := 44) (v := ?_) (some 132) rfl (by kernel_rfl) rfl (fun _ _ _ h => h) (Or.inl ⟨by rfl, ?_⟩) hS ?_
            rotate_left
            · (intro wq hq; go_simp); first | done | with_reducible rfl
            try simp only [Act.put, List.setIfInBounds_toArray, List.set_cons_zero, List.set_cons_succ]
            replace hS := Till.list 44 hS
            refine done_g (by kernel_rfl) (NoPanic.normal ?_) _
            clear hS
            have hbd : Below w9.heap.size w9 w11.drew.drew := hb.drew.drew
            have hbi : Below w11.heap.size w11 w11.drew.drew := ((Below.refl w11.heap.size w11).drew).drew
            have dc5 : w11.drew.cell? ⟨b5, f5 + x, none⟩ = some (.slice (some ⟨b6, f6, none⟩) L5 D5) := c5
            have dcr : w11.drew.cell? ⟨b6, f6, none⟩ = some (.slice A3 L3 C3) := cr
            have dcm : w11.drew.cell? ⟨b7, f7 + x, none⟩ = some (.slice A7 L7 C7) := cm
            obtain ⟨d0, d1, d2, d3⟩ := hx9.below hb.drew
            have cc := one_any A7 L7 C7 ((fs.getD (x * G) []).take K) a10 K C3 ((fs.getD (x * G) []).take K) w11.drew.drew (SV.below wm7 hbd) (SV.below wk10 hbd) hL7 hK1
            rw [decide_eq_true (rfl : (fs.getD (x * G) []).take K = (fs.getD (x * G) []).take K)] at cc
            clear c0 c1 c2 c3 c5 cr cm
            go_wp2_with fail
            refine wp_region_noPanic ?_
            refine region_g 13 (Ext (World.drew _)) (by kernel_rfl) (Ext.refl _) (fun hS => ?_)
            refine take_w (i := 0) (v := ?_) (some 133) rfl (by kernel_rfl) rfl (fun _ _ _ h => h) (Or.inl ⟨by rfl, ?_⟩) hS ?_
            rotate_left
            · (intro wq hq; go_simp); first | done | with_reducible rfl
            try simp only [Act.put, List.setIfInBounds_toArray, List.set_cons_zero, List.set_cons_succ]
            replace hS := Till.list 0 hS
            refine take_w (i := 1) (v := ?_) (some 134) rfl (by kernel_rfl) rfl (fun _ _ _ h => h) (Or.inl ⟨by rfl, ?_⟩) hS ?_
            rotate_left
            · (intro wq hq; go_simp); first | done | with_reducible rfl
            try simp only [Act.put, List.setIfInBounds_toArray, List.set_cons_zero, List.set_cons_succ]
            replace hS := Till.list 1 hS
            refine take_w (i := 4) (v := ?_) (some 137) rfl (by kernel_rfl) rfl (fun _ _ _ h => h) (Or.inl ⟨by rfl, ?_⟩) hS ?_
            rotate_left
            · (intro wq hq; go_simp); first | done | with_reducible rfl
            try simp only [Act.put, List.setIfInBounds_toArray, List.set_cons_zero, List.set_cons_succ]
            replace hS := Till.list 4 hS
            refine take_w (i := 5) (v := ?_) (some 138) rfl (by kernel_rfl) rfl (fun _ _ _ h => h) (Or.inl ⟨by rfl, ?_⟩) hS ?_
            rotate_left
            · (intro wq hq; go_simp); first | done | with_reducible rfl
            try simp only [Act.put, List.setIfInBounds_toArray, List.set_cons_zero, List.set_cons_succ]
            replace hS := Till.list 5 hS
            refine take_w (i := 2) (v := ?_) (some 135) rfl (by kernel_rfl) rfl (fun _ _ _ h => h) (Or.inl ⟨by rfl, ?_⟩) hS ?_
            rotate_left
            · (intro wq hq; go_simp); first | done | with_reducible rfl
            try simp only [Act.put, List.setIfInBounds_toArray, List.set_cons_zero, List.set_cons_succ]
            replace hS := Till.list 2 hS
            refine take_w (i := 6) (v := ?_) (some 139) rfl (by kernel_rfl) rfl (fun _ _ _ h => h) (Or.inl ⟨by rfl, ?_⟩) hS ?_
            rotate_left
            · (intro wq hq; go_simp); first | done | with_reducible rfl
            try simp only [Act.put, List.setIfInBounds_toArray, List.set_cons_zero, List.set_cons_succ]
            replace hS := Till.list 6 hS
            refine take_g (i := 3) (v := ?_) [3] (some 136) rfl (by kernel_rfl) rfl (fun _ _ _ h => h) (Or.inl ⟨by rfl, ?_⟩) hS ?_
            rotate_left
            · (intro wq hq; have q0 := hq _ _ _ d0; have q1 := hq _ _ _ d1; have q2 := hq _ _ _ d2; have q3 := hq _ _ _ d3; have q4 := hq _ _ _ dc5; have q5 := hq _ _ _ dcr; have q6 := hq _ _ _ dcm; go_simp); first | done | with_reducible rfl
            try simp only [Act.put, List.setIfInBounds_toArray, List.set_cons_zero, List.set_cons_succ]
            replace hS := Till.list 3 hS
            refine take_g (i := 7) (v := ?_) [12, 9, 8, 7] (some 140) rfl (by kernel_rfl) rfl (fun _ _ _ h => h) (Or.inl ⟨by rfl, ?_⟩) hS ?_
            rotate_left
            · (intro wq hq; have q0 := hq _ _ _ d0; have q1 := hq _ _ _ d1; have q2 := hq _ _ _ d2; have q3 := hq _ _ _ d3; have q4 := hq _ _ _ dc5; have q5 := hq _ _ _ dcr; have q6 := hq _ _ _ dcm; go_simp); first | done | with_reducible rfl
            try simp only [Act.put, List.setIfInBounds_toArray, List.set_cons_zero, List.set_cons_succ]
            replace hS := Till.list 7 hS
            refine take_g (i := 8) (v := .pointer (some ⟨b6, f6, none⟩)) [12, 9, 8] (some 141) rfl (by kernel_rfl) rfl (fun _ _ _ h => h) (Or.inl ⟨by rfl, ?_⟩) hS ?_
            · (intro wq hq; (go_simp; intro h; exfalso; omega))
            try simp only [Act.put, List.setIfInBounds_toArray, List.set_cons_zero, List.set_cons_succ]
            replace hS := Till.list 8 hS
            refine take_g (i := 9) (v := ?_) [12, 9] (some 142) rfl (by kernel_rfl) rfl (fun _ _ _ h => h) (Or.inl ⟨by rfl, ?_⟩) hS ?_
            rotate_left
            · (intro wq hq; have q0 := hq _ _ _ d0; have q1 := hq _ _ _ d1; have q2 := hq _ _ _ d2; have q3 := hq _ _ _ d3; have q4 := hq _ _ _ dc5; have q5 := hq _ _ _ dcr; have q6 := hq _ _ _ dcm; go_simp); first | done | with_reducible rfl
            try simp only [Act.put, List.setIfInBounds_toArray, List.set_cons_zero, List.set_cons_succ]
            replace hS := Till.list 9 hS
            refine take_w (i := 10) (v := ?_) (some 143) rfl (by kernel_rfl) rfl (fun _ _ _ h => h) (Or.inl ⟨by rfl, ?_⟩) hS ?_
            rotate_left
            · (intro wq hq; go_simp); first | done | with_reducible rfl
            try simp only [Act.put, List.setIfInBounds_toArray, List.set_cons_zero, List.set_cons_succ]
            replace hS := Till.list 10 hS
            refine take_g (i := 11) (v := ?_) [12, 11] (some 144) rfl (by kernel_rfl) rfl (fun _ _ _ h => h) (Or.inl ⟨by rfl, ?_⟩) hS ?_
            rotate_left
            · (intro wq hq; have q0 := hq _ _ _ d0; have q1 := hq _ _ _ d1; have q2 := hq _ _ _ d2; have q3 := hq _ _ _ d3; have q4 := hq _ _ _ dc5; have q5 := hq _ _ _ dcr; have q6 := hq _ _ _ dcm; go_simp); first | done | with_reducible rfl
            try simp only [Act.put, List.setIfInBounds_toArray, List.set_cons_zero, List.set_cons_succ]
            replace hS := Till.list 11 hS
            refine take_w (i := 12) (v := ?_) (some 145) rfl (by kernel_rfl) rfl (fun _ _ _ h => h) (Or.inl ⟨by rfl, ?_⟩) hS ?_
            rotate_left
            · (intro wq hq; go_simp); first | done | with_reducible rfl
            try simp only [Act.put, List.setIfInBounds_toArray, List.set_cons_zero, List.set_cons_succ]
            replace hS := Till.list 12 hS
            refine ready_g (rs := [13]) (by kernel_rfl) (by simp) ?_
            refine AllReadyG.cons rfl (fun Kont hK => ?_) AllReadyG.nil
            go_simp
            refine cc.mono ?_
            rintro e w12 ⟨rfl, hb12⟩
            have hbe := Below.then hbd hb12
            have hbf := Below.then hbi hb12
            refine hK.out _ _ (Or.inl (by kernel_rfl)) (fun hS0 => ?_)
            clear hK Kont
            try simp only [Act.put, List.setIfInBounds_toArray, List.set_cons_zero, List.set_cons_succ]
            clear hS
            have hS := hS0
            clear hS0
            refine take_w (i := 14) (v := ?_) (some 17) rfl (by kernel_rfl) rfl (fun _ _ _ h => h) (Or.inl ⟨by rfl, ?_⟩) hS ?_
            rotate_left
            · (intro wq hq; go_simp); first | done | with_reducible rfl
            try simp only [Act.put, List.setIfInBounds_toArray, List.set_cons_zero, List.set_cons_succ]
            replace hS := Till.list 14 hS
            refine done_g (by kernel_rfl) (NoPanic.normal ?_) _
            clear hS
            have ec5 := keepc hc5 hbe
            have ecr := keepc hcr hbe
            have ecm := keepc hcm hbe
            clear d0 d1 d2 d3 dc5 dcr dcm cc hb12 hbd hbi
            obtain ⟨d0, d1, d2, d3⟩ := hx9.below hbe
            have ck := key_any A N C K m (G : Int) A3 L3 C3 (fs.getD (x * G) []) w12.drew (SV.below r34 hbe.drew) hKL r31 (by omega)
            go_wp2_with fail
            refine wp_region_noPanic ?_
            refine region_g 12 (Ext (World.drew _)) (by kernel_rfl) (Ext.refl _) (fun hS => ?_)
            refine take_g (i := 0) (v := ?_) [7, 0] (some 147) rfl (by kernel_rfl) rfl (fun _ _ _ h => h) (Or.inl ⟨by rfl, ?_⟩) hS ?_
            rotate_left
            · (intro wq hq; have q0 := hq _ _ _ d0; have q1 := hq _ _ _ d1; have q2 := hq _ _ _ d2; have q3 := hq _ _ _ d3; have q4 := hq _ _ _ ec5; have q5 := hq _ _ _ ecr; have q6 := hq _ _ _ ecm; go_simp); first | done | with_reducible rfl
            try simp only [Act.put, List.setIfInBounds_toArray, List.set_cons_zero, List.set_cons_succ]
            replace hS := Till.list 0 hS
            refine take_w (i := 1) (v := ?_) (some 148) rfl (by kernel_rfl) rfl (fun _ _ _ h => h) (Or.inl ⟨by rfl, ?_⟩) hS ?_
            rotate_left
            · (intro wq hq; go_simp); first | done | with_reducible rfl
            try simp only [Act.put, List.setIfInBounds_toArray, List.set_cons_zero, List.set_cons_succ]
            replace hS := Till.list 1 hS
            refine take_w (i := 2) (v := ?_) (some 149) rfl (by kernel_rfl) rfl (fun _ _ _ h => h) (Or.inl ⟨by rfl, ?_⟩) hS ?_
            rotate_left
            · (intro wq hq; go_simp); first | done | with_reducible rfl
            try simp only [Act.put, List.setIfInBounds_toArray, List.set_cons_zero, List.set_cons_succ]
            replace hS := Till.list 2 hS
            refine take_w (i := 3) (v := ?_) (some 150) rfl (by kernel_rfl) rfl (fun _ _ _ h => h) (Or.inl ⟨by rfl, ?_⟩) hS ?_
            rotate_left
            · (intro wq hq; go_simp); first | done | with_reducible rfl
            try simp only [Act.put, List.setIfInBounds_toArray, List.set_cons_zero, List.set_cons_succ]
            replace hS := Till.list 3 hS
            refine take_g (i := 4) (v := ?_) [7, 6, 5, 4] (some 151) rfl (by kernel_rfl) rfl (fun _ _ _ h => h) (Or.inl ⟨by rfl, ?_⟩) hS ?_
            rotate_left
            · (intro wq hq; have q0 := hq _ _ _ d0; have q1 := hq _ _ _ d1; have q2 := hq _ _ _ d2; have q3 := hq _ _ _ d3; have q4 := hq _ _ _ ec5; have q5 := hq _ _ _ ecr; have q6 := hq _ _ _ ecm; go_simp); first | done | with_reducible rfl
            try simp only [Act.put, List.setIfInBounds_toArray, List.set_cons_zero, List.set_cons_succ]
            replace hS := Till.list 4 hS
            refine take_g (i := 5) (v := .pointer (some ⟨b6, f6, none⟩)) [7, 6, 5] (some 152) rfl (by kernel_rfl) rfl (fun _ _ _ h => h) (Or.inl ⟨by rfl, ?_⟩) hS ?_
            · (intro wq hq; (go_simp; intro h; exfalso; omega))
            try simp only [Act.put, List.setIfInBounds_toArray, List.set_cons_zero, List.set_cons_succ]
            replace hS := Till.list 5 hS
            refine take_g (i := 6) (v := ?_) [7, 6] (some 153) rfl (by kernel_rfl) rfl (fun _ _ _ h => h) (Or.inl ⟨by rfl, ?_⟩) hS ?_
            rotate_left
            · (intro wq hq; have q0 := hq _ _ _ d0; have q1 := hq _ _ _ d1; have q2 := hq _ _ _ d2; have q3 := hq _ _ _ d3; have q4 := hq _ _ _ ec5; have q5 := hq _ _ _ ecr; have q6 := hq _ _ _ ecm; go_simp); first | done | with_reducible rfl
            try simp only [Act.put, List.setIfInBounds_toArray, List.set_cons_zero, List.set_cons_succ]
            replace hS := Till.list 6 hS
            refine take_w (i := 8) (v := ?_) (some 155) rfl (by kernel_rfl) rfl (fun _ _ _ h => h) (Or.inl ⟨by rfl, ?_⟩) hS ?_
            rotate_left
            · (intro wq hq; go_simp); first | done | with_reducible rfl
            try simp only [Act.put, List.setIfInBounds_toArray, List.set_cons_zero, List.set_cons_succ]
            replace hS := Till.list 8 hS
            refine take_w (i := 9) (v := ?_) (some 156) rfl (by kernel_rfl) rfl (fun _ _ _ h => h) (Or.inl ⟨by rfl, ?_⟩) hS ?_
            rotate_left
            · (intro wq hq; go_simp); first | done | with_reducible rfl
            try simp only [Act.put, List.setIfInBounds_toArray, List.set_cons_zero, List.set_cons_succ]
            replace hS := Till.list 9 hS
            refine take_w (i := 10) (v := ?_) (some 157) rfl (by kernel_rfl) rfl (fun _ _ _ h => h) (Or.inl ⟨by rfl, ?_⟩) hS ?_
            rotate_left
            · (intro wq hq; go_simp); first | done | with_reducible rfl
            try simp only [Act.put, List.setIfInBounds_toArray, List.set_cons_zero, List.set_cons_succ]
            replace hS := Till.list 10 hS
            refine take_g (i := 11) (v := ?_) [11] (some 158) rfl (by kernel_rfl) rfl (fun _ _ _ h => h) (Or.inl ⟨by rfl, ?_⟩) hS ?_
            rotate_left
            · (intro wq hq; have q0 := hq _ _ _ d0; have q1 := hq _ _ _ d1; have q2 := hq _ _ _ d2; have q3 := hq _ _ _ d3; have q4 := hq _ _ _ ec5; have q5 := hq _ _ _ ecr; have q6 := hq _ _ _ ecm; go_simp); first | done | with_reducible rfl
            try simp only [Act.put, List.setIfInBounds_toArray, List.set_cons_zero, List.set_cons_succ]
            replace hS := Till.list 11 hS
            refine ready_g (rs := [7]) (by kernel_rfl) (by simp) ?_
            refine AllReadyG.cons rfl (fun Kont hK => ?_) AllReadyG.nil
            go_simp
            refine ck.mono ?_
            rintro e w13 ⟨rfl, hb13⟩
            have hbg := Below.then hbe.drew hb13
            have hbh := Below.then hbf.drew hb13
            refine hK.out _ _ (Or.inr ((hS.get (by kernel_rfl)).trans (Ext.below hb13))) (fun hS0 => ?_)
            clear hK Kont
            try simp only [Act.put, List.setIfInBounds_toArray, List.set_cons_zero, List.set_cons_succ]
            clear hS
            have hS := hS0
            clear hS0
            refine ready_g (rs := [12]) (by kernel_rfl) (by simp) ?_
            refine AllReadyG.cons rfl (fun Kont hK => ?_) AllReadyG.nil
            go_simp
            refine (one_any A3 K K ((fs.getD (x * G) []).take K) A7 L7 C7 ((fs.getD (x * G) []).take K) w13 (SV.below (WV.takes r34 K hKL) hbg) (SV.below wm7 hbg) hK1 hL7).mono ?_
            rw [decide_eq_true (rfl : (fs.getD (x * G) []).take K = (fs.getD (x * G) []).take K)]
            rintro e w14 ⟨rfl, hb14⟩
            have hbk := Below.then hbg hb14
            have hbl := Below.then hbh hb14
            refine hK.out _ _ (Or.inl (by kernel_rfl)) (fun hS0 => ?_)
            clear hK Kont
            try simp only [Act.put, List.setIfInBounds_toArray, List.set_cons_zero, List.set_cons_succ]
            clear hS
            have hS := hS0
            clear hS0
            refine take_w (i := 13) (v := ?_) (some 18) rfl (by kernel_rfl) rfl (fun _ _ _ h => h) (Or.inl ⟨by rfl, ?_⟩) hS ?_
            rotate_left
            · (intro wq hq; go_simp); first | done | with_reducible rfl
            try simp only [Act.put, List.setIfInBounds_toArray, List.set_cons_zero, List.set_cons_succ]
            replace hS := Till.list 13 hS
            refine done_g (by kernel_rfl) (NoPanic.normal ?_) _
            clear hS
            have fc5 := keepc hc5 hbk
            have hs4 := SV.below hs1 hbk
            have ho4 := ho.below hbl
            have hmap : Hid ((es ++ gs).map (·.2) = fs.take ((x + 1) * G)) := by show _ = _; rw [List.map_append, has.out, HGS.out, take_gran]
            have hml : m0 + L5 ≤ 60 := by
              have e1 : es.length = m0 := by have := ho.1; rw [pc_len] at this; omega
              have e2 : gs.length = L5 := by have := hs1.1; rw [pc_len] at this; omega
              have e3 := congrArg List.length hmap.out
              rw [List.length_map, List.length_append, List.length_take] at e3
              omega
            clear d0 d1 d2 d3 ec5 ecr ecm ck hb13 hb14 hbg hbh hbe hbf r34 wm7 wk10 hsl
            go_wp2_with (at_builtin; refine append_os el_rows rfl (.tmp 166) (.tmp 170) rfl w9.heap.size _ m0 _ rfl ho4 _ L5 D5 (pc gs) rfl hs4 (by omega) (by omega) hbk.size ?_; intro v15 w15 ho5 hb15)
            rw [← pc_app] at ho5
            have hb16 := hbk.trans hb15
            have hp5 := PR.app hpa hs3
            clear ho4 hs4 fc5 hb15 hbk hbl
            go_roundw
            case rel => exact ⟨x + 1, m0 + L5, es ++ gs, by omega, by go_num, hml, ho5, hmap, hp5, hb16⟩
            case measure => simp [intOf]; omega
          · skip
            refine wp_region_noPanic ?_
            refine region_g 45 (Ext (World.drew _)) (by kernel_rfl) (Ext.refl _) (fun hS => ?_)
            refine take_w (i := 0) (v := ?_) (some 88) rfl (by kernel_rfl) rfl (fun _ _ _ h => h) (Or.inl ⟨by rfl, ?_⟩) hS ?_
            rotate_left
            · (intro wq hq; go_simp); first | done | with_reducible rfl
            try simp only [Act.put, List.setIfInBounds_toArray, List.set_cons_zero, List.set_cons_succ]
            replace hS := Till.list 0 hS
            refine take_w (i := 1) (v := ?_) (some 89) rfl (by kernel_rfl) rfl (fun _ _ _ h => h) (Or.inl ⟨by rfl, ?_⟩) hS ?_
            rotate_left
            · (intro wq hq; go_simp); first | done | with_reducible rfl
            try simp only [Act.put, List.setIfInBounds_toArray, List.set_cons_zero, List.set_cons_succ]
            replace hS := Till.list 1 hS
            refine take_w (i := 2) (v := ?_) (some 90) rfl (by kernel_rfl) rfl (fun _ _ _ h => h) (Or.inl ⟨by rfl, ?_⟩) hS ?_
            rotate_left
            · (intro wq hq; go_simp); first | done | with_reducible rfl
            try simp only [Act.put, List.setIfInBounds_toArray, List.set_cons_zero, List.set_cons_succ]
            replace hS := Till.list 2 hS
            refine take_n (i := 3) (v := ?_) (some 91) rfl (by kernel_rfl) rfl (fun _ _ _ h => h) (Or.inl ⟨by rfl, ?_⟩) hS ?_
            rotate_left
            · (intro wq hq; have q0 := hq _ _ _ c0; have q1 := hq _ _ _ c1; have q2 := hq _ _ _ c2; have q3 := hq _ _ _ c3; have q4 := hq _ _ _ c5; have q5 := hq _ _ _ cr; go_simp); first | done | with_reducible rfl
            try simp only [Act.put, List.setIfInBounds_toArray, List.set_cons_zero, List.set_cons_succ]
            replace hS := Till.list 3 hS
            refine take_w (i := 4) (v := ?_) (some 92) rfl (by kernel_rfl) rfl (fun _ _ _ h => h) (Or.inl ⟨by rfl, ?_⟩) hS ?_
            rotate_left
            · (intro wq hq; go_simp); first | done | with_reducible rfl
            try simp only [Act.put, List.setIfInBounds_toArray, List.set_cons_zero, List.set_cons_succ]
            replace hS := Till.list 4 hS
            refine take_n (i := 5) (v := .bool false) (some 93) rfl (by kernel_rfl) rfl (fun _ _ _ h => h) (Or.inl ⟨by rfl, ?_⟩) hS ?_
            · (intro wq hq; (go_simp <;> omega))
            try simp only [Act.put, List.setIfInBounds_toArray, List.set_cons_zero, List.set_cons_succ]
            replace hS := Till.list 5 hS
            refine take_w (i := 6) (v := ?_) (some 94) rfl (by kernel_rfl) rfl (fun _ _ _ h => h) (Or.inl ⟨by rfl, ?_⟩) hS ?_
            rotate_left
            · (intro wq hq; go_simp); first | done | with_reducible rfl
            try simp only [Act.put, List.setIfInBounds_toArray, List.set_cons_zero, List.set_cons_succ]
            replace hS := Till.list 6 hS
            refine take_w (i := 7) (v := ?_) (some 95) rfl (by kernel_rfl) rfl (fun _ _ _ h => h) (Or.inl ⟨by rfl, ?_⟩) hS ?_
            rotate_left
            · (intro wq hq; go_simp); first | done | with_reducible rfl
            try simp only [Act.put, List.setIfInBounds_toArray, List.set_cons_zero, List.set_cons_succ]
            replace hS := Till.list 7 hS
            refine take_w (i := 8) (v := ?_) (some 96) rfl (by kernel_rfl) rfl (fun _ _ _ h => h) (Or.inl ⟨by rfl, ?_⟩) hS ?_
            rotate_left
            · (intro wq hq; go_simp); first | done | with_reducible rfl
            try simp only [Act.put, List.setIfInBounds_toArray, List.set_cons_zero, List.set_cons_succ]
            replace hS := Till.list 8 hS
            refine take_w (i := 12) (v := ?_) (some 100) rfl (by kernel_rfl) rfl (fun _ _ _ h => h) (Or.inl ⟨by rfl, ?_⟩) hS ?_
            rotate_left
            · (intro wq hq; go_simp); first | done | with_reducible rfl
            try simp only [Act.put, List.setIfInBounds_toArray, List.set_cons_zero, List.set_cons_succ]
            replace hS := Till.list 12 hS
            refine take_w (i := 9) (v := ?_) (some 97) rfl (by kernel_rfl) rfl (fun _ _ _ h => h) (Or.inl ⟨by rfl, ?_⟩) hS ?_
            rotate_left
            · (intro wq hq; go_simp); first | done | with_reducible rfl
            try simp only [Act.put, List.setIfInBounds_toArray, List.set_cons_zero, List.set_cons_succ]
            replace hS := Till.list 9 hS
            refine take_n (i := 13) (v := ?_) (some 101) rfl (by kernel_rfl) rfl (fun _ _ _ h => h) (Or.inl ⟨by rfl, ?_⟩) hS ?_
            rotate_left
            · (intro wq hq; have q0 := hq _ _ _ c0; have q1 := hq _ _ _ c1; have q2 := hq _ _ _ c2; have q3 := hq _ _ _ c3; have q4 := hq _ _ _ c5; have q5 := hq _ _ _ cr; go_simp); first | done | with_reducible rfl
            try simp only [Act.put, List.setIfInBounds_toArray, List.set_cons_zero, List.set_cons_succ]
            replace hS := Till.list 13 hS
            refine take_n (i := 10) (v := ?_) (some 98) rfl (by kernel_rfl) rfl (fun _ _ _ h => h) (Or.inl ⟨by rfl, ?_⟩) hS ?_
            rotate_left
            · (intro wq hq; have q0 := hq _ _ _ c0; have q1 := hq _ _ _ c1; have q2 := hq _ _ _ c2; have q3 := hq _ _ _ c3; have q4 := hq _ _ _ c5; have q5 := hq _ _ _ cr; go_simp); first | done | with_reducible rfl
            try simp only [Act.put, List.setIfInBounds_toArray, List.set_cons_zero, List.set_cons_succ]
            replace hS := Till.list 10 hS
            refine take_w (i := 11) (v := ?_) (some 99) rfl (by kernel_rfl) rfl (fun _ _ _ h => h) (Or.inl ⟨by rfl, ?_⟩) hS ?_
            rotate_left
            · (intro wq hq; go_simp); first | done | with_reducible rfl
            try simp only [Act.put, List.setIfInBounds_toArray, List.set_cons_zero, List.set_cons_succ]
            replace hS := Till.list 11 hS
            refine take_n (i := 14) (v := .bool false) (some 102) rfl (by kernel_rfl) rfl (fun _ _ _ h => h) (Or.inl ⟨by rfl, ?_⟩) hS ?_
            · (intro wq hq; (go_simp <;> omega))
            try simp only [Act.put, List.setIfInBounds_toArray, List.set_cons_zero, List.set_cons_succ]
            replace hS := Till.list 14 hS
            refine take_w (i := 15) (v := ?_) (some 103) rfl (by kernel_rfl) rfl (fun _ _ _ h => h) (Or.inl ⟨by rfl, ?_⟩) hS ?_
            rotate_left
            · (intro wq hq; go_simp); first | done | with_reducible rfl
            try simp only [Act.put, List.setIfInBounds_toArray, List.set_cons_zero, List.set_cons_succ]
            replace hS := Till.list 15 hS
            refine take_w (i := 16) (v := ?_) (some 104) rfl (by kernel_rfl) rfl (fun _ _ _ h => h) (Or.inl ⟨by rfl, ?_⟩) hS ?_
            rotate_left
            · (intro wq hq; go_simp); first | done | with_reducible rfl
            try simp only [Act.put, List.setIfInBounds_toArray, List.set_cons_zero, List.set_cons_succ]
            replace hS := Till.list 16 hS
            refine take_w (i := 17) (v := ?_) (some 105) rfl (by kernel_rfl) rfl (fun _ _ _ h => h) (Or.inl ⟨by rfl, ?_⟩) hS ?_
            rotate_left
            · (intro wq hq; go_simp); first | done | with_reducible rfl
            try simp only [Act.put, List.setIfInBounds_toArray, List.set_cons_zero, List.set_cons_succ]
            replace hS := Till.list 17 hS
            refine take_w (i := 18) (v := ?_) (some 106) rfl (by kernel_rfl) rfl (fun _ _ _ h => h) (Or.inl ⟨by rfl, ?_⟩) hS ?_
            rotate_left
            · (intro wq hq; go_simp); first | done | with_reducible rfl
            try simp only [Act.put, List.setIfInBounds_toArray, List.set_cons_zero, List.set_cons_succ]
            replace hS := Till.list 18 hS
            refine take_w (i := 19) (v := ?_) (some 107) rfl (by kernel_rfl) rfl (fun _ _ _ h => h) (Or.inl ⟨by rfl, ?_⟩) hS ?_
            rotate_left
            · (intro wq hq; go_simp); first | done | with_reducible rfl
            try simp only [Act.put, List.setIfInBounds_toArray, List.set_cons_zero, List.set_cons_succ]
            replace hS := Till.list 19 hS
            refine take_n (i := 20) (v := .int .i64 ((q : Int) - 1)) (some 108) rfl (by kernel_rfl) rfl (fun _ _ _ h => h) (Or.inl ⟨by rfl, ?_⟩) hS ?_
            · (intro wq hq; (go_simp))
            try simp only [Act.put, List.setIfInBounds_toArray, List.set_cons_zero, List.set_cons_succ]
            replace hS := Till.list 20 hS
            refine take_n (i := 21) (v := .bool false) (some 109) rfl (by kernel_rfl) rfl (fun _ _ _ h => h) (Or.inl ⟨by rfl, ?_⟩) hS ?_
            · (intro wq hq; (go_simp <;> omega))
            try simp only [Act.put, List.setIfInBounds_toArray, List.set_cons_zero, List.set_cons_succ]
            replace hS := Till.list 21 hS
            refine take_w (i := 22) (v := ?_) (some 110) rfl (by kernel_rfl) rfl (fun _ _ _ h => h) (Or.inl ⟨by rfl, ?_⟩) hS ?_
            rotate_left
            · (intro wq hq; go_simp); first | done | with_reducible rfl
            try simp only [Act.put, List.setIfInBounds_toArray, List.set_cons_zero, List.set_cons_succ]
            replace hS := Till.list 22 hS
            refine take_w (i := 23) (v := undef) (some 111) rfl (by kernel_rfl) rfl (fun _ _ _ h => h) (Or.inr ⟨by rfl, rfl⟩) hS ?_
            try simp only [Act.put, List.setIfInBounds_toArray, List.set_cons_zero, List.set_cons_succ]
            replace hS := Till.list 23 hS
            refine take_w (i := 24) (v := undef) (some 112) rfl (by kernel_rfl) rfl (fun _ _ _ h => h) (Or.inr ⟨by rfl, rfl⟩) hS ?_
            try simp only [Act.put, List.setIfInBounds_toArray, List.set_cons_zero, List.set_cons_succ]
            replace hS := Till.list 24 hS
            refine take_w (i := 28) (v := undef) (some 116) rfl (by kernel_rfl) rfl (fun _ _ _ h => h) (Or.inr ⟨by rfl, rfl⟩) hS ?_
            try simp only [Act.put, List.setIfInBounds_toArray, List.set_cons_zero, List.set_cons_succ]
            replace hS := Till.list 28 hS
            refine take_w (i := 25) (v := undef) (some 113) rfl (by kernel_rfl) rfl (fun _ _ _ h => h) (Or.inr ⟨by rfl, rfl⟩) hS ?_
            try simp only [Act.put, List.setIfInBounds_toArray, List.set_cons_zero, List.set_cons_succ]
            replace hS := Till.list 25 hS
            refine take_w (i := 29) (v := undef) (some 117) rfl (by kernel_rfl) rfl (fun _ _ _ h => h) (Or.inr ⟨by rfl, rfl⟩) hS ?_
            try simp only [Act.put, List.setIfInBounds_toArray, List.set_cons_zero, List.set_cons_succ]
            replace hS := Till.list 29 hS
            refine take_w (i := 26) (v := undef) (some 114) rfl (by kernel_rfl) rfl (fun _ _ _ h => h) (Or.inr ⟨by rfl, rfl⟩) hS ?_
            try simp only [Act.put, List.setIfInBounds_toArray, List.set_cons_zero, List.set_cons_succ]
            replace hS := Till.list 26 hS
            refine take_w (i := 27) (v := undef) (some 115) rfl (by kernel_rfl) rfl (fun _ _ _ h => h) (Or.inr ⟨by rfl, rfl⟩) hS ?_
            try simp only [Act.put, List.setIfInBounds_toArray, List.set_cons_zero, List.set_cons_succ]
            replace hS := Till.list 27 hS
            refine take_w (i := 30) (v := undef) (some 118) rfl (by kernel_rfl) rfl (fun _ _ _ h => h) (Or.inr ⟨by rfl, rfl⟩) hS ?_
            try simp only [Act.put, List.setIfInBounds_toArray, List.set_cons_zero, List.set_cons_succ]
            replace hS := Till.list 30 hS
            refine take_w (i := 31) (v := ?_) (some 119) rfl (by kernel_rfl) rfl (fun _ _ _ h => h) (Or.inl ⟨by rfl, ?_⟩) hS ?_
            rotate_left
            · (intro wq hq; go_simp); first | done | with_reducible rfl
            try simp only [Act.put, List.setIfInBounds_toArray, List.set_cons_zero, List.set_cons_succ]
            replace hS := Till.list 31 hS
            refine take_w (i := 32) (v := ?_) (some 120) rfl (by kernel_rfl) rfl (fun _ _ _ h => h) (Or.inl ⟨by rfl, ?_⟩) hS ?_
            rotate_left
            · (intro wq hq; go_simp); first | done | with_reducible rfl
            try simp only [Act.put, List.setIfInBounds_toArray, List.set_cons_zero, List.set_cons_succ]
            replace hS := Till.list 32 hS
            refine take_w (i := 33) (v := ?_) (some 121) rfl (by kernel_rfl) rfl (fun _ _ _ h => h) (Or.inl ⟨by rfl, ?_⟩) hS ?_
            rotate_left
            · (intro wq hq; go_simp); first | done | with_reducible rfl
            try simp only [Act.put, List.setIfInBounds_toArray, List.set_cons_zero, List.set_cons_succ]
            replace hS := Till.list 33 hS
            refine take_w (i := 34) (v := ?_) (some 122) rfl (by kernel_rfl) rfl (fun _ _ _ h => h) (Or.inl ⟨by rfl, ?_⟩) hS ?_
            rotate_left
            · (intro wq hq; go_simp); first | done | with_reducible rfl
            try simp only [Act.put, List.setIfInBounds_toArray, List.set_cons_zero, List.set_cons_succ]
            replace hS := Till.list 34 hS
            refine take_w (i := 35) (v := ?_) (some 123) rfl (by kernel_rfl) rfl (fun _ _ _ h => h) (Or.inl ⟨by rfl, ?_⟩) hS ?_
            rotate_left
            · (intro wq hq; go_simp); first | done | with_reducible rfl
            try simp only [Act.put, List.setIfInBounds_toArray, List.set_cons_zero, List.set_cons_succ]
            replace hS := Till.list 35 hS
            refine take_w (i := 36) (v := ?_) (some 124) rfl (by kernel_rfl) rfl (fun _ _ _ h => h) (Or.inl ⟨by rfl, ?_⟩) hS ?_
            rotate_left
            · (intro wq hq; go_simp); first | done | with_reducible rfl
            try simp only [Act.put, List.setIfInBounds_toArray, List.set_cons_zero, List.set_cons_succ]
            replace hS := Till.list 36 hS
            refine take_n (i := 37) (v := ?_) (some 125) rfl (by kernel_rfl) rfl (fun _ _ _ h => h) (Or.inl ⟨by rfl, ?_⟩) hS ?_
            rotate_left
            · (intro wq hq; have q0 := hq _ _ _ c0; have q1 := hq _ _ _ c1; have q2 := hq _ _ _ c2; have q3 := hq _ _ _ c3; have q4 := hq _ _ _ c5; have q5 := hq _ _ _ cr; go_simp); first | done | with_reducible rfl
            try simp only [Act.put, List.setIfInBounds_toArray, List.set_cons_zero, List.set_cons_succ]
            replace hS := Till.list 37 hS
            refine take_n (i := 38) (v := .pointer (some ⟨b6, f6, none⟩)) (some 126) rfl (by kernel_rfl) rfl (fun _ _ _ h => h) (Or.inl ⟨by rfl, ?_⟩) hS ?_
            · (intro wq hq; (go_simp; intro h; exfalso; omega))
            try simp only [Act.put, List.setIfInBounds_toArray, List.set_cons_zero, List.set_cons_succ]
            replace hS := Till.list 38 hS
            refine take_n (i := 39) (v := ?_) (some 127) rfl (by kernel_rfl) rfl (fun _ _ _ h => h) (Or.inl ⟨by rfl, ?_⟩) hS ?_
            rotate_left
            · (intro wq hq; have q0 := hq _ _ _ c0; have q1 := hq _ _ _ c1; have q2 := hq _ _ _ c2; have q3 := hq _ _ _ c3; have q4 := hq _ _ _ c5; have q5 := hq _ _ _ cr; go_simp); first | done | with_reducible rfl
            try simp only [Act.put, List.setIfInBounds_toArray, List.set_cons_zero, List.set_cons_succ]
            replace hS := Till.list 39 hS
            refine take_w (i := 41) (v := ?_) (some 129) rfl (by kernel_rfl) rfl (fun _ _ _ h => h) (Or.inl ⟨by rfl, ?_⟩) hS ?_
            rotate_left
            · (intro wq hq; go_simp); first | done | with_reducible rfl
            try simp only [Act.put, List.setIfInBounds_toArray, List.set_cons_zero, List.set_cons_succ]
            replace hS := Till.list 41 hS
            refine take_w (i := 40) (v := ?_) (some 128) rfl (by kernel_rfl) rfl (fun _ _ _ h => h) (Or.inl ⟨by rfl, ?_⟩) hS ?_
            rotate_left
            · (intro wq hq; go_simp); first | done | with_reducible rfl
            try simp only [Act.put, List.setIfInBounds_toArray, List.set_cons_zero, List.set_cons_succ]
            replace hS := Till.list 40 hS
            refine take_n (i := 42) (v := ?_) (some 130) rfl (by kernel_rfl) rfl (fun _ _ _ h => h) (Or.inl ⟨by rfl, ?_⟩) hS ?_
            rotate_left
            · (intro wq hq; have q0 := hq _ _ _ c0; have q1 := hq _ _ _ c1; have q2 := hq _ _ _ c2; have q3 := hq _ _ _ c3; have q4 := hq _ _ _ c5; have q5 := hq _ _ _ cr; go_simp); first | done | with_reducible rfl
            try simp only [Act.put, List.setIfInBounds_toArray, List.set_cons_zero, List.set_cons_succ]
            replace hS := Till.list 42 hS
            refine take_n (i := 43) (v := .bool false) (some 131) rfl (by kernel_rfl) rfl (fun _ _ _ h => h) (Or.inl ⟨by rfl, ?_⟩) hS ?_
            · (intro wq hq; (go_simp <;> omega))
            try simp only [Act.put, List.setIfInBounds_toArray, List.set_cons_zero, List.set_cons_succ]
            replace hS := Till.list 43 hS
            refine take_w (i := 44) (v := ?_) (some 132) rfl (by kernel_rfl) rfl (fun _ _ _ h => h) (Or.inl ⟨by rfl, ?_⟩) hS ?_
            rotate_left
            · (intro wq hq; go_simp); first | done | with_reducible rfl
            try simp only [Act.put, List.setIfInBounds_toArray, List.set_cons_zero, List.set_cons_succ]
            replace hS := Till.list 44 hS
            refine done_g (by kernel_rfl) (NoPanic.normal ?_) _
            clear hS
            have hbd : Below w9.heap.size w9 w11.drew.drew := hb.drew.drew
            have hbi : Below w11.heap.size w11 w11.drew.drew := ((Below.refl w11.heap.size w11).drew).drew
            have dc5 : w11.drew.cell? ⟨b5, f5 + x, none⟩ = some (.slice (some ⟨b6, f6, none⟩) L5 D5) := c5
            have dcr : w11.drew.cell? ⟨b6, f6, none⟩ = some (.slice A3 L3 C3) := cr
            have dcm : w11.drew.cell? ⟨b7, f7 + x, none⟩ = some (.slice A7 L7 C7) := cm
            obtain ⟨d0, d1, d2, d3⟩ := hx9.below hb.drew
            have cc := one_any A7 L7 C7 ((fs.getD (x * G) []).take K) a10 K C3 ((fs.getD (x * G) []).take K) w11.drew.drew (SV.below wm7 hbd) (SV.below wk10 hbd) hL7 hK1
            rw [decide_eq_true (rfl : (fs.getD (x * G) []).take K = (fs.getD (x * G) []).take K)] at cc
            clear c0 c1 c2 c3 c5 cr cm
            go_wp2_with fail
            refine wp_region_noPanic ?_
            refine region_g 13 (Ext (World.drew _)) (by kernel_rfl) (Ext.refl _) (fun hS => ?_)
            refine take_w (i := 0) (v := ?_) (some 133) rfl (by kernel_rfl) rfl (fun _ _ _ h => h) (Or.inl ⟨by rfl, ?_⟩) hS ?_
            rotate_left
            · (intro wq hq; go_simp); first | done | with_reducible rfl
            try simp only [Act.put, List.setIfInBounds_toArray, List.set_cons_zero, List.set_cons_succ]
            replace hS := Till.list 0 hS
            refine take_w (i := 1) (v := ?_) (some 134) rfl (by kernel_rfl) rfl (fun _ _ _ h => h) (Or.inl ⟨by rfl, ?_⟩) hS ?_
            rotate_left
            · (intro wq hq; go_simp); first | done | with_reducible rfl
            try simp only [Act.put, List.setIfInBounds_toArray, List.set_cons_zero, List.set_cons_succ]
            replace hS := Till.list 1 hS
            refine take_w (i := 4) (v := ?_) (some 137) rfl (by kernel_rfl) rfl (fun _ _ _ h => h) (Or.inl ⟨by rfl, ?_⟩) hS ?_
            rotate_left
            · (intro wq hq; go_simp); first | done | with_reducible rfl
            try simp only [Act.put, List.setIfInBounds_toArray, List.set_cons_zero, List.set_cons_succ]
            replace hS := Till.list 4 hS
            refine take_w (i := 5) (v := ?_) (some 138) rfl (by kernel_rfl) rfl (fun _ _ _ h => h) (Or.inl ⟨by rfl, ?_⟩) hS ?_
            rotate_left
            · (intro wq hq; go_simp); first | done | with_reducible rfl
            try simp only [Act.put, List.setIfInBounds_toArray, List.set_cons_zero, List.set_cons_succ]
            replace hS := Till.list 5 hS
            refine take_w (i := 2) (v := ?_) (some 135) rfl (by kernel_rfl) rfl (fun _ _ _ h => h) (Or.inl ⟨by rfl, ?_⟩) hS ?_
            rotate_left
            · (intro wq hq; go_simp); first | done | with_reducible rfl
            try simp only [Act.put, List.setIfInBounds_toArray, List.set_cons_zero, List.set_cons_succ]
            replace hS := Till.list 2 hS
            refine take_w (i := 6) (v := ?_) (some 139) rfl (by kernel_rfl) rfl (fun _ _ _ h => h) (Or.inl ⟨by rfl, ?_⟩) hS ?_
            rotate_left
            · (intro wq hq; go_simp); first | done | with_reducible rfl
            try simp only [Act.put, List.setIfInBounds_toArray, List.set_cons_zero, List.set_cons_succ]
            replace hS := Till.list 6 hS
            refine take_g (i := 3) (v := ?_) [3] (some 136) rfl (by kernel_rfl) rfl (fun _ _ _ h => h) (Or.inl ⟨by rfl, ?_⟩) hS ?_
            rotate_left
            · (intro wq hq; have q0 := hq _ _ _ d0; have q1 := hq _ _ _ d1; have q2 := hq _ _ _ d2; have q3 := hq _ _ _ d3; have q4 := hq _ _ _ dc5; have q5 := hq _ _ _ dcr; have q6 := hq _ _ _ dcm; go_simp); first | done | with_reducible rfl
            try simp only [Act.put, List.setIfInBounds_toArray, List.set_cons_zero, List.set_cons_succ]
            replace hS := Till.list 3 hS
            refine take_g (i := 7) (v := ?_) [12, 9, 8, 7] (some 140) rfl (by kernel_rfl) rfl (fun _ _ _ h => h) (Or.inl ⟨by rfl, ?_⟩) hS ?_
            rotate_left
            · (intro wq hq; have q0 := hq _ _ _ d0; have q1 := hq _ _ _ d1; have q2 := hq _ _ _ d2; have q3 := hq _ _ _ d3; have q4 := hq _ _ _ dc5; have q5 := hq _ _ _ dcr; have q6 := hq _ _ _ dcm; go_simp); first | done | with_reducible rfl
            try simp only [Act.put, List.setIfInBounds_toArray, List.set_cons_zero, List.set_cons_succ]
            replace hS := Till.list 7 hS
            refine take_g (i := 8) (v := .pointer (some ⟨b6, f6, none⟩)) [12, 9, 8] (some 141) rfl (by kernel_rfl) rfl (fun _ _ _ h => h) (Or.inl ⟨by rfl, ?_⟩) hS ?_
            · (intro wq hq; (go_simp; intro h; exfalso; omega))
            try simp only [Act.put, List.setIfInBounds_toArray, List.set_cons_zero, List.set_cons_succ]
            replace hS := Till.list 8 hS
            refine take_g (i := 9) (v := ?_) [12, 9] (some 142) rfl (by kernel_rfl) rfl (fun _ _ _ h => h) (Or.inl ⟨by rfl, ?_⟩) hS ?_
            rotate_left
            · (intro wq hq; have q0 := hq _ _ _ d0; have q1 := hq _ _ _ d1; have q2 := hq _ _ _ d2; have q3 := hq _ _ _ d3; have q4 := hq _ _ _ dc5; have q5 := hq _ _ _ dcr; have q6 := hq _ _ _ dcm; go_simp); first | done | with_reducible rfl
            try simp only [Act.put, List.setIfInBounds_toArray, List.set_cons_zero, List.set_cons_succ]
            replace hS := Till.list 9 hS
            refine take_w (i := 10) (v := ?_) (some 143) rfl (by kernel_rfl) rfl (fun _ _ _ h => h) (Or.inl ⟨by rfl, ?_⟩) hS ?_
            rotate_left
            · (intro wq hq; go_simp); first | done | with_reducible rfl
            try simp only [Act.put, List.setIfInBounds_toArray, List.set_cons_zero, List.set_cons_succ]
            replace hS := Till.list 10 hS
            refine take_g (i := 11) (v := ?_) [12, 11] (some 144) rfl (by kernel_rfl) rfl (fun _ _ _ h => h) (Or.inl ⟨by rfl, ?_⟩) hS ?_
            rotate_left
            · (intro wq hq; have q0 := hq _ _ _ d0; have q1 := hq _ _ _ d1; have q2 := hq _ _ _ d2; have q3 := hq _ _ _ d3; have q4 := hq _ _ _ dc5; have q5 := hq _ _ _ dcr; have q6 := hq _ _ _ dcm; go_simp); first | done | with_reducible rfl
            try simp only [Act.put, List.setIfInBounds_toArray, List.set_cons_zero, List.set_cons_succ]
            replace hS := Till.list 11 hS
            refine take_w (i := 12) (v := ?_) (some 145) rfl (by kernel_rfl) rfl (fun _ _ _ h => h) (Or.inl ⟨by rfl, ?_⟩) hS ?_
            rotate_left
            · (intro wq hq; go_simp); first | done | with_reducible rfl
            try simp only [Act.put, List.setIfInBounds_toArray, List.set_cons_zero, List.set_cons_succ]
            replace hS := Till.list 12 hS
            refine ready_g (rs := [13]) (by kernel_rfl) (by simp) ?_
            refine AllReadyG.cons rfl (fun Kont hK => ?_) AllReadyG.nil
            go_simp
            refine cc.mono ?_
            rintro e w12 ⟨rfl, hb12⟩
            have hbe := Below.then hbd hb12
            have hbf := Below.then hbi hb12
            refine hK.out _ _ (Or.inl (by kernel_rfl)) (fun hS0 => ?_)
            clear hK Kont
            try simp only [Act.put, List.setIfInBounds_toArray, List.set_cons_zero, List.set_cons_succ]
            clear hS
            have hS := hS0
            clear hS0
            refine take_w (i := 14) (v := ?_) (some 17) rfl (by kernel_rfl) rfl (fun _ _ _ h => h) (Or.inl ⟨by rfl, ?_⟩) hS ?_
            rotate_left
            · (intro wq hq; go_simp); first | done | with_reducible rfl
            try simp only [Act.put, List.setIfInBounds_toArray, List.set_cons_zero, List.set_cons_succ]
            replace hS := Till.list 14 hS
            refine done_g (by kernel_rfl) (NoPanic.normal ?_) _
            clear hS
            have ec5 := keepc hc5 hbe
            have ecr := keepc hcr hbe
            have ecm := keepc hcm hbe
            clear d0 d1 d2 d3 dc5 dcr dcm cc hb12 hbd hbi
            obtain ⟨d0, d1, d2, d3⟩ := hx9.below hbe
            have ck := key_any A N C K m (G : Int) A3 L3 C3 (fs.getD (x * G) []) w12.drew (SV.below r34 hbe.drew) hKL r31 (by omega)
            go_wp2_with fail
            refine wp_region_noPanic ?_
            refine region_g 12 (Ext (World.drew _)) (by kernel_rfl) (Ext.refl _) (fun hS => ?_)
            refine take_g (i := 0) (v := ?_) [7, 0] (some 147) rfl (by kernel_rfl) rfl (fun _ _ _ h => h) (Or.inl ⟨by rfl, ?_⟩) hS ?_
            rotate_left
            · (intro wq hq; have q0 := hq _ _ _ d0; have q1 := hq _ _ _ d1; have q2 := hq _ _ _ d2; have q3 := hq _ _ _ d3; have q4 := hq _ _ _ ec5; have q5 := hq _ _ _ ecr; have q6 := hq _ _ _ ecm; go_simp); first | done | with_reducible rfl
            try simp only [Act.put, List.setIfInBounds_toArray, List.set_cons_zero, List.set_cons_succ]
            replace hS := Till.list 0 hS
            refine take_w (i := 1) (v := ?_) (some 148) rfl (by kernel_rfl) rfl (fun _ _ _ h => h) (Or.inl ⟨by rfl, ?_⟩) hS ?_
            rotate_left
            · (intro wq hq; go_simp); first | done | with_reducible rfl
            try simp only [Act.put, List.setIfInBounds_toArray, List.set_cons_zero, List.set_cons_succ]
            replace hS := Till.list 1 hS
            refine take_w (i := 2) (v := ?_) (some 149) rfl (by kernel_rfl) rfl (fun _ _ _ h => h) (Or.inl ⟨by rfl, ?_⟩) hS ?_
            rotate_left
            · (intro wq hq; go_simp); first | done | with_reducible rfl
            try simp only [Act.put, List.setIfInBounds_toArray, List.set_cons_zero, List.set_cons_succ]
            replace hS := Till.list 2 hS
            refine take_w (i := 3) (v := ?_) (some 150) rfl (by kernel_rfl) rfl (fun _ _ _ h => h) (Or.inl ⟨by rfl, ?_⟩) hS ?_
            rotate_left
            · (intro wq hq; go_simp); first | done | with_reducible rfl
            try simp only [Act.put, List.setIfInBounds_toArray, List.set_cons_zero, List.set_cons_succ]
            replace hS := Till.list 3 hS
            refine take_g (i := 4) (v := ?_) [7, 6, 5, 4] (some 151) rfl (by kernel_rfl) rfl (fun _ _ _ h => h) (Or.inl ⟨by rfl, ?_⟩) hS ?_
            rotate_left
            · (intro wq hq; have q0 := hq _ _ _ d0; have q1 := hq _ _ _ d1; have q2 := hq _ _ _ d2; have q3 := hq _ _ _ d3; have q4 := hq _ _ _ ec5; have q5 := hq _ _ _ ecr; have q6 := hq _ _ _ ecm; go_simp); first | done | with_reducible rfl
            try simp only [Act.put, List.setIfInBounds_toArray, List.set_cons_zero, List.set_cons_succ]
            replace hS := Till.list 4 hS
            refine take_g (i := 5) (v := .pointer (some ⟨b6, f6, none⟩)) [7, 6, 5] (some 152) rfl (by kernel_rfl) rfl (fun _ _ _ h => h) (Or.inl ⟨by rfl, ?_⟩) hS ?_
            · (intro wq hq; (go_simp; intro h; exfalso; omega))
            try simp only [Act.put, List.setIfInBounds_toArray, List.set_cons_zero, List.set_cons_succ]
            replace hS := Till.list 5 hS
            refine take_g (i := 6) (v := ?_) [7, 6] (some 153) rfl (by kernel_rfl) rfl (fun _ _ _ h => h) (Or.inl ⟨by rfl, ?_⟩) hS ?_
            rotate_left
            · (intro wq hq; have q0 := hq _ _ _ d0; have q1 := hq _ _ _ d1; have q2 := hq _ _ _ d2; have q3 := hq _ _ _ d3; have q4 := hq _ _ _ ec5; have q5 := hq _ _ _ ecr; have q6 := hq _ _ _ ecm; go_simp); first | done | with_reducible rfl
            try simp only [Act.put, List.setIfInBounds_toArray, List.set_cons_zero, List.set_cons_succ]
            replace hS := Till.list 6 hS
            refine take_w (i := 8) (v := ?_) (some 155) rfl (by kernel_rfl) rfl (fun _ _ _ h => h) (Or.inl ⟨by rfl, ?_⟩) hS ?_
            rotate_left
            · (intro wq hq; go_simp); first | done | with_reducible rfl
            try simp only [Act.put, List.setIfInBounds_toArray, List.set_cons_zero, List.set_cons_succ]
            replace hS := Till.list 8 hS
            refine take_w (i := 9) (v := ?_) (some 156) rfl (by kernel_rfl) rfl (fun _ _ _ h => h) (Or.inl ⟨by rfl, ?_⟩) hS ?_
            rotate_left
            · (intro wq hq; go_simp); first | done | with_reducible rfl
            try simp only [Act.put, List.setIfInBounds_toArray, List.set_cons_zero, List.set_cons_succ]
            replace hS := Till.list 9 hS
            refine take_w (i := 10) (v := ?_) (some 157) rfl (by kernel_rfl) rfl (fun _ _ _ h => h) (Or.inl ⟨by rfl, ?_⟩) hS ?_
            rotate_left
            · (intro wq hq; go_simp); first | done | with_reducible rfl
            try simp only [Act.put, List.setIfInBounds_toArray, List.set_cons_zero, List.set_cons_succ]
            replace hS := Till.list 10 hS
            refine take_g (i := 11) (v := ?_) [11] (some 158) rfl (by kernel_rfl) rfl (fun _ _ _ h => h) (Or.inl ⟨by rfl, ?_⟩) hS ?_
            rotate_left
            · (intro wq hq; have q0 := hq _ _ _ d0; have q1 := hq _ _ _ d1; have q2 := hq _ _ _ d2; have q3 := hq _ _ _ d3; have q4 := hq _ _ _ ec5; have q5 := hq _ _ _ ecr; have q6 := hq _ _ _ ecm; go_simp); first | done | with_reducible rfl
            try simp only [Act.put, List.setIfInBounds_toArray, List.set_cons_zero, List.set_cons_succ]
            replace hS := Till.list 11 hS
            refine ready_g (rs := [7]) (by kernel_rfl) (by simp) ?_
            refine AllReadyG.cons rfl (fun Kont hK => ?_) AllReadyG.nil
            go_simp
            refine ck.mono ?_
            rintro e w13 ⟨rfl, hb13⟩
            have hbg := Below.then hbe.drew hb13
            have hbh := Below.then hbf.drew hb13
            refine hK.out _ _ (Or.inr ((hS.get (by kernel_rfl)).trans (Ext.below hb13))) (fun hS0 => ?_)
            clear hK Kont
            try simp only [Act.put, List.setIfInBounds_toArray, List.set_cons_zero, List.set_cons_succ]
            clear hS
            have hS := hS0
            clear hS0
            refine ready_g (rs := [12]) (by kernel_rfl) (by simp) ?_
            refine AllReadyG.cons rfl (fun Kont hK => ?_) AllReadyG.nil
            go_simp
            refine (one_any A3 K K ((fs.getD (x * G) []).take K) A7 L7 C7 ((fs.getD (x * G) []).take K) w13 (SV.below (WV.takes r34 K hKL) hbg) (SV.below wm7 hbg) hK1 hL7).mono ?_
            rw [decide_eq_true (rfl : (fs.getD (x * G) []).take K = (fs.getD (x * G) []).take K)]
            rintro e w14 ⟨rfl, hb14⟩
            have hbk := Below.then hbg hb14
            have hbl := Below.then hbh hb14
            refine hK.out _ _ (Or.inl (by kernel_rfl)) (fun hS0 => ?_)
            clear hK Kont
            try simp only [Act.put, List.setIfInBounds_toArray, List.set_cons_zero, List.set_cons_succ]
            clear hS
            have hS := hS0
            clear hS0
            refine take_w (i := 13) (v := ?_) (some 18) rfl (by kernel_rfl) rfl (fun _ _ _ h => h) (Or.inl ⟨by rfl, ?_⟩) hS ?_
            rotate_left
            · (intro wq hq; go_simp); first | done | with_reducible rfl
            try simp only [Act.put, List.setIfInBounds_toArray, List.set_cons_zero, List.set_cons_succ]
            replace hS := Till.list 13 hS
            refine done_g (by kernel_rfl) (NoPanic.normal ?_) _
            clear hS
            have fc5 := keepc hc5 hbk
            have hs4 := SV.below hs1 hbk
            have ho4 := ho.below hbl
            have hmap : Hid ((es ++ gs).map (·.2) = fs.take ((x + 1) * G)) := by show _ = _; rw [List.map_append, has.out, HGS.out, take_gran]
            have hml : m0 + L5 ≤ 60 := by
              have e1 : es.length = m0 := by have := ho.1; rw [pc_len] at this; omega
              have e2 : gs.length = L5 := by have := hs1.1; rw [pc_len] at this; omega
              have e3 := congrArg List.length hmap.out
              rw [List.length_map, List.length_append, List.length_take] at e3
              omega
            clear d0 d1 d2 d3 ec5 ecr ecm ck hb13 hb14 hbg hbh hbe hbf r34 wm7 wk10 hsl
            go_wp2_with (at_builtin; refine append_os el_rows rfl (.tmp 166) (.tmp 170) rfl w9.heap.size _ m0 _ rfl ho4 _ L5 D5 (pc gs) rfl hs4 (by omega) (by omega) hbk.size ?_; intro v15 w15 ho5 hb15)
            rw [← pc_app] at ho5
            have hb16 := hbk.trans hb15
            have hp5 := PR.app hpa hs3
            clear ho4 hs4 fc5 hb15 hbk hbl
            go_roundw
            case rel => exact ⟨x + 1, m0 + L5, es ++ gs, by omega, by go_num, hml, ho5, hmap, hp5, hb16⟩
            case measure => simp [intOf]; omega
        · have hxi : ¬ (x : Int) < (q : Int) := by omega
          obtain rfl : q = x := by omega
          have hfull : Hid (es.map (·.2) = fs) := by
            show _ = _
            rw [has.out, List.take_of_length_le]
            have : ¬ q * G < j := fun h => by have := (cnt_lt hG.1).2 h; rw [HQ.out] at this; omega
            rw [hll.out]; omega
          obtain ⟨a15, c15, rfl, -, -, sv15, -⟩ := ho.sv
          have hrv := RVs.of sv15 (hpa.below hb)
          rw [hfull.out] at hrv
          have rvr := rv9.below hb
          have hw11 := Below.then hw9 hb
          clear ho sv15 has hpa hfull g9 m9 hb
          go_wp2_with fail
          refine (rrows_any a15 m0 c15 fs a4 j c4 fs _ hrv rvr (few_max (by omega)) (few_max (by omega))).mono ?_
          rw [decide_eq_true (rfl : fs = fs)]
          rintro e w16 ⟨rfl, hb16⟩
          have hw16 := Below.then hw11 hb16
          go_wp2_with fail
          go_ret
          exact ⟨rfl, hw16⟩
end Go.Proofs.Ytiigcjncpjdkcaa
/-
  GrainBack: for every shape and every list of rows the statement's function returns true, and its arguments read as they did. No condition.
-/
namespace Go.Proofs.Ytiigcjncpjdkcaa.grainBack
open Go.ChangeShapes Go.WideShapes Go.ChangeAt Go.RowKit
set_option linter.unusedVariables false
set_option maxRecDepth 4000

set_option maxRecDepth 100000 in
theorem lifted (os : Os) (started : os.Started) (H : Type) (enc : TypeId × Value → H) :
    ReturnsInHanded {} Try.checked os 4 .any (Rows.grainBackSpec.pre6 enc Try.prog Try.f4 Rows.grainBackRow.domain false) (Rows.grainBackSpec.post enc Try.prog Try.f4 false true false false) := by
  refine returnsInHanded_of_change (C := Try.checked) own started (by kernel_rfl) Try.func4
    (ChangeSpec.witness6 (enc := enc) (C := Try.checked) false ⟨#[], #[.agg #[.int .u8 0, .int .u8 0, .int .u8 0, .int .u8 0, .int .u8 0, .int .u8 0, .int .u8 0, .int .u8 0, .int .u8 0, .int .u8 0, .int .u8 0, .int .u8 0], .slice none 0 0], []⟩ 8 (by kernel_rfl) (by kernel_rfl) (by kernel_rfl) (by kernel_rfl)) ?_
  intro W base args ds gs before hval0 hW hcnd _
  have hval : ∀ (j : Nat) t v, Try.f4.params[j]? = some t → args[j]? = some v → Value.okWide Try.prog W .any base t v := hval0
  have hW' := hW
  obtain ⟨p, q, hA0, hV, rfl, hfz, hnd⟩ := hW
  have hA : DataW.TrodAll enc Try.prog W 0 (fun _ => true) true Try.f4.params.toList args.toList ds p := hA0
  rw [Try.params4] at hA hval
  obtain ⟨v0, vs0, d0, ds0, p0, q0, hargs0, rfl, rfl, h0, r0⟩ := trodAll_cons hA
  obtain ⟨v1, vs1, d1, ds1, p1, q1, hargs1, hds1, hq1, h1, r1⟩ := trodAll_cons r0
  obtain ⟨hn1, hn2, hn3⟩ := trodAll_nil r1
  subst hn2 hn3
  subst hds1 hq1
  obtain rfl : args = #[v0, v1] := by cases args; simp_all
  obtain ⟨rfl, rfl⟩ := trodVars_none hV
  have rd0 := h0
  have lt0 : ∀ x ∈ p0, x.block < W.heap.size := by obtain ⟨m, hm⟩ := rd0; exact DataW.trod_lt m _ _ _ hm
  obtain ⟨la0, lb0, lc0, ld0, le0, lf0, lg0, lh0, na0, nb0, nc0, nd0, rfl, S0⟩ := open_shape (hval 0 24 v0 rfl rfl) h0
  have rd1 := h1
  have lt1 : ∀ x ∈ p1, x.block < W.heap.size := by obtain ⟨m, hm⟩ := rd1; exact DataW.trod_lt m _ _ _ hm
  obtain ⟨A1, n1, c1, v1, rfl, W1, L1, R1⟩ := open_rows4 (hval 1 25 v1 rfl rfl) h1
  clear hA0 hval0
  refine (backA_is S0 A1 n1 c1 v1 W W1 L1 R1).mono fun e W' ⟨he, bel⟩ => ?_
  subst he
  exact ⟨_, rfl, _, _, _, [], _, [], hW', trodAll_mk1 (shut_bool Try.underlying4 _), (trodAll_cons_mk (Below.trod laidOut (by kernel_rfl) (of_decide_eq_true (by kernel_rfl)) rd0 bel lt0) (trodAll_cons_mk (Below.trod laidOut (by kernel_rfl) (of_decide_eq_true (by kernel_rfl)) rd1 bel lt1) trodAll_mk0)), rfl, bel.frame _, fun h => by cases h⟩

theorem over : Rows.grainBackRow.holds Try.pinned (OpenSpec.ofChange Rows.grainBackSpec) :=
  OpenClaim.holds_of_wide 4 Try.f4 rfl rfl rfl rfl rfl rfl rfl ⟨rfl, rfl, rfl, rfl, rfl⟩ rfl rfl rfl rfl rfl (by kernel_rfl) Try.func4 (by kernel_rfl)
    (of_decide_eq_true (by kernel_rfl)) (by unfold Func.isWrapper; first | (rw [if_pos (by decide +kernel)]; kernel_rfl) | (rw [if_neg (by decide +kernel)]; exact ⟨rfl, rfl⟩))
    (fun os started H enc _ => lifted os started H enc)
end Go.Proofs.Ytiigcjncpjdkcaa.grainBack
namespace Go.Proofs.Ytiigcjncpjdkcaa
theorem grainBack_holds : Rows.GrainBackSaid := grainBack.over
end Go.Proofs.Ytiigcjncpjdkcaa
