/-
  PartAll: for every schema, every list of rows and every slice of bytes the statement's function returns true, and its arguments read as they did. No condition.
-/
import Derived.Test.YtbfihajgjbpmaaaGreatPrtI
import Derived.Test.YtbfihajgjbpmaaaGreatPrtE
import Derived.Test.YtbfihajgjbpmaaaGreatRows
import Derived.WalkKit
import Derived.ProofKit
import Derived.OpenShut
import Derived.ShutString
import Derived.ChangeOld
import Derived.Below
import Derived.Test.YtbfihajgjbpmaaaGreatSchC
/- PartAll: the walk. -/
namespace Go.Proofs.YtbfihajgjbpmaaaGreat
open Go.ChangeShapes Go.WideShapes Go.ChangeAt Go.RowKit
set_option linter.unusedVariables false
set_option maxRecDepth 4000

/-- what Write tells of bytes -/
def wrL (ts : List Int) (k m g : Int) (l : List RowV) : List Int := if chE ts k m g l = 0 then partL ts k.toNat m g.toNat l else []
theorem wrL_byt {ts : List Int} {k m g : Int} {l : List RowV} (hg : ∀ v ∈ l, RgV v) : Byt (wrL ts k m g l) := by
  unfold wrL
  split
  · rename_i h
    exact (chE_part h hg).1.byt
  · intro z hz; cases hz
theorem WriteE.get {w w' : World} {ts : List Int} {k m g : Int} {l : List RowV} {e : Ending} (h : WriteE w w' ts k m g l e) (hg : ∀ v ∈ l, RgV v) :
    ∃ (a : Option Addr) (n c : Nat), e = .returned (.tuple #[.slice a n c, .int .i64 (chE ts k m g l)]) ∧ BV w' a n (wrL ts k m g l) ∧ Below w.heap.size w w' := by
  have hb := wrL_byt (ts := ts) (k := k) (m := m) (g := g) hg
  rcases h with ⟨h0, v, rfl, ou, hb1⟩ | ⟨h0, rfl, hb1⟩
  · have e0 : wrL ts k m g l = partL ts k.toNat m g.toNat l := if_pos h0
    rw [← e0] at ou
    obtain ⟨a8, d8, rfl, -, -, bv8, -⟩ := ou.ow.bvn hb _ rfl
    exact ⟨a8, _, d8, by rw [h0], bv8, hb1⟩
  · have e0 : wrL ts k m g l = [] := if_neg h0
    rw [e0]
    exact ⟨none, 0, 0, rfl, ⟨rfl, (fun z hz => by cases hz), .inl rfl⟩, hb1⟩
set_option maxRecDepth 20000 in
set_option maxHeartbeats 8000000 in
theorem allB_is (A : Option Addr) (N C : Nat) (ts : List Int) (k m g : Int) (R0 : Option Addr) (n c : Nat) (vss : List RowV) (B : Option Addr) (nb cb : Nat) (zs : List Int) (w : World)
    (hv : IV w A N ts) (hNC : N ≤ C) (hN : N ≤ maxLen) (hr : RVs w R0 n vss) (hn : n ≤ maxLen) (hg : ∀ v ∈ vss, RgV v) (bz : BV w B nb zs) (hzc : nb ≤ cb) :
    Calls Tryz.prog 3 #[SS A N C k m g, .slice R0 n c, .slice B nb cb] w fun e w' => e = .returned (.bool true) ∧ Below w.heap.size w w' := by
  have t := Bk.new w #[.slice A N C, .int .i64 k, .int .i64 m, .int .i64 g] 24
  go_enter Tryz.func3, Tryz.ntmps3
  go_wp2_with fail
  refine (shownB_is _).mono ?_
  rintro e w1 ⟨rfl, hb1⟩
  replace t := t.below hb1
  have hb := after1 hb1
  clear hb1
  obtain ⟨c0, c1, c2, c3⟩ := t.sx
  go_wp2_with fail
  clear c0 c1 c2 c3
  refine (shortB_any A N C ts k m g _ (hv.below hb) hNC hN).mono ?_
  rintro e w2 ⟨M, rfl, hM7, hMN, hb2⟩
  replace t := t.below hb2
  replace hb := Below.then hb hb2
  clear hb2
  have hus := hv.takesB M hMN
  obtain ⟨us, hu⟩ : ∃ us, ts.take M = us := ⟨_, rfl⟩
  rw [hu] at hus
  have hMC : M ≤ C := by omega
  clear hu hv hNC hN hMN
  have hM1 : M ≤ maxLen := few_max (by omega)
  obtain ⟨c0, c1, c2, c3⟩ := t.sx
  have f0 := t.free 0
  have f1 := t.free 1
  have f2 := t.free 2
  have f3 := t.free 3
  go_wp2_with fail
  clear c0 c1 c2 c3 f0 f1 f2 f3
  replace t := t.put4 (.slice A M C) (.int .i64 k) (.int .i64 m) (.int .i64 g)
  replace hb := (((hb.setCell (p := ⟨w.heap.size, 0, none⟩) (by simp) (.slice A M C)).setCell (p := ⟨w.heap.size, 1, none⟩) (by simp) (.int .i64 k)).setCell (p := ⟨w.heap.size, 2, none⟩) (by simp) (.int .i64 m)).setCell (p := ⟨w.heap.size, 3, none⟩) (by simp) (.int .i64 g)
  generalize hWW : (((w2.setCell ⟨w.heap.size, 0, none⟩ (.slice A M C)).setCell ⟨w.heap.size, 1, none⟩ (.int .i64 k)).setCell ⟨w.heap.size, 2, none⟩ (.int .i64 m)).setCell ⟨w.heap.size, 3, none⟩ (.int .i64 g) = w3 at *
  clear hWW
  refine (fewB_any R0 n c vss _ (hr.below hb) hn).mono ?_
  rintro e w6 ⟨j5, v5, rfl, hj5, of5, hbf⟩
  obtain ⟨R, C5, rfl, rf6⟩ := of5.rvs
  have hgl := Lib.hid (fewR_rg hg)
  obtain ⟨l, hl⟩ : ∃ l, fewR vss = l := ⟨_, rfl⟩
  rw [hl] at rf6 hgl
  have t6 := t.below hbf
  have hb6 := Below.then hb hbf
  have hj1 : j5 ≤ maxLen := few_max (by omega)
  clear hl of5 hbf t hb hg hr hn
  obtain ⟨c0, c1, c2, c3⟩ := t6.sx
  by_cases h5 : nb ≤ 1000
  · have h5i : ¬ (1000 : Int) < (nb : Int) := by omega
    go_wp2_with fail
    clear c0 c1 c2 c3
    refine (pwrite_any A M C us k m g R j5 C5 l w6 (hus.below hb6) hM1 hMC rf6 hj1 hgl.out).mono ?_
    rintro e w7 he
    obtain ⟨a7, n7, c7, rfl, bv7, hb7⟩ := he.get hgl.out
    clear he
    have t7 := t6.below hb7
    have hw7 := Below.then hb6 hb7
    have rf7 := rf6.below hb7
    obtain ⟨c0, c1, c2, c3⟩ := t7.sx
    clear t6 rf6 hb7 hb6
    go_wp2_with fail
    clear c0 c1 c2 c3
    refine (rbwrite_any A M C us k m g R j5 C5 l w7 (hus.below hw7) hM1 rf7 hj1 hgl.out).mono ?_
    rintro e w8 he
    obtain ⟨a8, n8, c8, rfl, bv8, hb8⟩ := he.get hgl.out
    clear he
    have hw8 := Below.then hw7 hb8
    have bv7 := bv7.below hb8
    clear rf7 t7 hw7 hb8
    obtain ⟨ce, hce⟩ : ∃ ce, chE us k m g l = ce := ⟨_, rfl⟩
    rw [hce]
    obtain ⟨zw, hzw⟩ : ∃ zw, wrL us k m g l = zw := ⟨_, rfl⟩
    rw [hzw] at bv7 bv8
    clear hce hzw
    go_wp2_with fail
    refine (popen_any B nb cb (zs) w8 (bz.below hw8) (by omega) (by omega)).mono ?_
    rintro e w9 ⟨he, hb9⟩
    have hop : ∃ x e0, e = .returned (.tuple #[x, .int .i64 e0]) ∧ OpE w9 (zs) x e0 := by
      rcases he with ⟨p, ts', K', m', G', l', rfl, pt, -, hpr⟩ | ⟨rfl, hno⟩
      · exact ⟨_, _, rfl, .inl ⟨p, ts', K', m', G', l', rfl, rfl, pt, hpr⟩⟩
      · exact ⟨_, _, rfl, .inr ⟨rfl, rfl, hno⟩⟩
    clear he
    obtain ⟨x, e0, rfl, hop⟩ := hop
    have hw9 := Below.then hw8 hb9
    have bv7 := bv7.below hb9
    have bv8 := bv8.below hb9
    go_wp2_with fail
    refine (openedB_any x e0 B nb cb (zs) w9 hop (bz.below hw9) (by omega) (by omega)).mono ?_
    rintro e wa ⟨rfl, hba⟩
    have hwa := Below.then hw9 hba
    have h1 := conv_any (bv7.below hba) c7
    have h2 := conv_any (bv8.below hba) c8
    clear bv7 bv8 hop bz hw8 hb9 hba hw9
    go_wp2_with fail
    go_ret
    exact ⟨rfl, hwa⟩
  · have h5i : (1000 : Int) < (nb : Int) := by omega
    have h5c : 1000 ≤ cb := by omega
    replace bz := bz.take 1000 (by omega)
    generalize zs.take 1000 = ys at bz
    go_wp2_with fail
    clear c0 c1 c2 c3
    refine (pwrite_any A M C us k m g R j5 C5 l w6 (hus.below hb6) hM1 hMC rf6 hj1 hgl.out).mono ?_
    rintro e w7 he
    obtain ⟨a7, n7, c7, rfl, bv7, hb7⟩ := he.get hgl.out
    clear he
    have t7 := t6.below hb7
    have hw7 := Below.then hb6 hb7
    have rf7 := rf6.below hb7
    obtain ⟨c0, c1, c2, c3⟩ := t7.sx
    clear t6 rf6 hb7 hb6
    go_wp2_with fail
    clear c0 c1 c2 c3
    refine (rbwrite_any A M C us k m g R j5 C5 l w7 (hus.below hw7) hM1 rf7 hj1 hgl.out).mono ?_
    rintro e w8 he
    obtain ⟨a8, n8, c8, rfl, bv8, hb8⟩ := he.get hgl.out
    clear he
    have hw8 := Below.then hw7 hb8
    have bv7 := bv7.below hb8
    clear rf7 t7 hw7 hb8
    obtain ⟨ce, hce⟩ : ∃ ce, chE us k m g l = ce := ⟨_, rfl⟩
    rw [hce]
    obtain ⟨zw, hzw⟩ : ∃ zw, wrL us k m g l = zw := ⟨_, rfl⟩
    rw [hzw] at bv7 bv8
    clear hce hzw
    go_wp2_with fail
    refine (popen_any B 1000 cb (ys) w8 (bz.below hw8) (by omega) (by omega)).mono ?_
    rintro e w9 ⟨he, hb9⟩
    have hop : ∃ x e0, e = .returned (.tuple #[x, .int .i64 e0]) ∧ OpE w9 (ys) x e0 := by
      rcases he with ⟨p, ts', K', m', G', l', rfl, pt, -, hpr⟩ | ⟨rfl, hno⟩
      · exact ⟨_, _, rfl, .inl ⟨p, ts', K', m', G', l', rfl, rfl, pt, hpr⟩⟩
      · exact ⟨_, _, rfl, .inr ⟨rfl, rfl, hno⟩⟩
    clear he
    obtain ⟨x, e0, rfl, hop⟩ := hop
    have hw9 := Below.then hw8 hb9
    have bv7 := bv7.below hb9
    have bv8 := bv8.below hb9
    go_wp2_with fail
    refine (openedB_any x e0 B 1000 cb (ys) w9 hop (bz.below hw9) (by omega) (by omega)).mono ?_
    rintro e wa ⟨rfl, hba⟩
    have hwa := Below.then hw9 hba
    have h1 := conv_any (bv7.below hba) c7
    have h2 := conv_any (bv8.below hba) c8
    clear bv7 bv8 hop bz hw8 hb9 hba hw9
    go_wp2_with fail
    go_ret
    exact ⟨rfl, hwa⟩
end Go.Proofs.YtbfihajgjbpmaaaGreat
/-
  PartAll: for every schema, every list of rows and every slice of bytes the statement's function returns true, and its arguments read as they did. No condition.
-/
namespace Go.Proofs.YtbfihajgjbpmaaaGreat.partAll
open Go.ChangeShapes Go.WideShapes Go.ChangeAt Go.RowKit
set_option linter.unusedVariables false
set_option maxRecDepth 4000

set_option maxRecDepth 100000 in
theorem lifted (os : Os) (started : os.Started) (H : Type) (enc : TypeId × Value → H) :
    ReturnsInHanded {} Tryz.checked os 3 .any (Rows.partAllSpec.pre6 enc Tryz.prog Tryz.f3 Rows.partAllRow.domain false) (Rows.partAllSpec.post enc Tryz.prog Tryz.f3 false true false false) := by
  refine returnsInHanded_of_change (C := Tryz.checked) own started (by kernel_rfl) Tryz.func3
    (ChangeSpec.witness6 (enc := enc) (C := Tryz.checked) false ⟨#[], #[.agg #[.slice none 0 0, .int .i64 0, .int .i64 0, .int .i64 0], .slice none 0 0, .slice none 0 0], []⟩ 8 (by kernel_rfl) (by kernel_rfl) (by kernel_rfl) (by kernel_rfl)) ?_
  intro W base args ds gs before hval0 hW hcnd _
  have hval : ∀ (j : Nat) t v, Tryz.f3.params[j]? = some t → args[j]? = some v → Value.okWide Tryz.prog W .any base t v := hval0
  have hW' := hW
  obtain ⟨p, q, hA0, hV, rfl, hfz, hnd⟩ := hW
  have hA : DataW.TrodAll enc Tryz.prog W 0 (fun _ => true) true Tryz.f3.params.toList args.toList ds p := hA0
  rw [Tryz.params3] at hA hval
  obtain ⟨v0, vs0, d0, ds0, p0, q0, hargs0, rfl, rfl, h0, r0⟩ := trodAll_cons hA
  obtain ⟨v1, vs1, d1, ds1, p1, q1, hargs1, hds1, hq1, h1, r1⟩ := trodAll_cons r0
  obtain ⟨v2, vs2, d2, ds2, p2, q2, hargs2, hds2, hq2, h2, r2⟩ := trodAll_cons r1
  obtain ⟨hn1, hn2, hn3⟩ := trodAll_nil r2
  subst hn2 hn3
  subst hds2 hq2
  subst hds1 hq1
  obtain rfl : args = #[v0, v1, v2] := by cases args; simp_all
  obtain ⟨rfl, rfl⟩ := trodVars_none hV
  have rd0 := h0
  have lt0 : ∀ x ∈ p0, x.block < W.heap.size := by obtain ⟨m, hm⟩ := rd0; exact DataW.trod_lt m _ _ _ hm
  obtain ⟨A0, n0, c0, t0, k0, m0, g0, rfl, W0, L0, R0⟩ := open_schema (hval 0 24 v0 rfl rfl) h0
  have rd1 := h1
  have lt1 : ∀ x ∈ p1, x.block < W.heap.size := by obtain ⟨m, hm⟩ := rd1; exact DataW.trod_lt m _ _ _ hm
  obtain ⟨A1, n1, c1, v1, rfl, W1, L1, R1⟩ := open_rows4 (hval 1 25 v1 rfl rfl) h1
  have rd2 := h2
  have lt2 : ∀ x ∈ p2, x.block < W.heap.size := by obtain ⟨m, hm⟩ := rd2; exact DataW.trod_lt m _ _ _ hm
  obtain ⟨A2, n2, c2, z2, rfl, W2, L2⟩ := open_bytes (hval 2 26 v2 rfl rfl) h2
  clear hA0 hval0
  refine (allB_is A0 n0 c0 t0 k0 m0 g0 A1 n1 c1 v1 A2 n2 c2 z2 W W0 L0 R0 W1 L1 R1 W2 L2).mono fun e W' ⟨he, bel⟩ => ?_
  subst he
  exact ⟨_, rfl, _, _, _, [], _, [], hW', trodAll_mk1 (shut_bool Tryz.underlying4 _), (trodAll_cons_mk (Below.trod laidOut (by kernel_rfl) (of_decide_eq_true (by kernel_rfl)) rd0 bel lt0) (trodAll_cons_mk (Below.trod laidOut (by kernel_rfl) (of_decide_eq_true (by kernel_rfl)) rd1 bel lt1) (trodAll_cons_mk (Below.trod laidOut (by kernel_rfl) (of_decide_eq_true (by kernel_rfl)) rd2 bel lt2) trodAll_mk0))), rfl, bel.frame _, fun h => by cases h⟩

theorem over : Rows.partAllRow.holds Tryz.pinned (OpenSpec.ofChange Rows.partAllSpec) :=
  OpenClaim.holds_of_wide 3 Tryz.f3 rfl rfl rfl rfl rfl rfl rfl ⟨rfl, rfl, rfl, rfl, rfl⟩ rfl rfl rfl rfl rfl (by kernel_rfl) Tryz.func3 (by kernel_rfl)
    (of_decide_eq_true (by kernel_rfl)) (by unfold Func.isWrapper; first | (rw [if_pos (by decide +kernel)]; kernel_rfl) | (rw [if_neg (by decide +kernel)]; exact ⟨rfl, rfl⟩))
    (fun os started H enc _ => lifted os started H enc)
end Go.Proofs.YtbfihajgjbpmaaaGreat.partAll
namespace Go.Proofs.YtbfihajgjbpmaaaGreat
theorem partAll_holds : Rows.PartAllSaid := partAll.over
end Go.Proofs.YtbfihajgjbpmaaaGreat
