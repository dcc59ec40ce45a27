/- Texts that belong together, one behind the other: QB8, QB9. -/
import Derived.Test.YtbfihajgjbpmaaaGreatPrtH
import Derived.Test.YtbfihajgjbpmaaaGreatPrtG
import Derived.Test.YtbfihajgjbpmaaaGreatPrtC
import Derived.Test.YtbfihajgjbpmaaaGreatOwn
import Derived.Test.YtbfihajgjbpmaaaGreatPrtD
import Derived.Test.YtbfihajgjbpmaaaGreatSchD
/- Stage 11: the document's own Read. -/
namespace Go.Proofs.YtbfihajgjbpmaaaGreat
open Go.ChangeShapes Go.WideShapes Go.ChangeAt Go.RowKit
set_option linter.unusedVariables false
set_option maxRecDepth 4000

theorem results_cell_tmp3 {fn : Func} {p u v : Tmp} {ty : TypeId} (h : fn.results = #[.cell p ty, .tmp u, .tmp v]) (tmps : Array Value) (P : Program) (w : World) :
    (results fn tmps).run P w = ((asAddr (tmps.getD p undef)).run P w).andThen fun a w₁ => ((loadVar ty a).run P w₁).andThen fun x w₂ => .ok (.tuple #[x, tmps.getD u undef, tmps.getD v undef]) w₂ := by
  simp only [results, h]
  simp [Sem.run_bind, Result.andThen]
theorem res_ss3 {fn : Func} {p u v : Tmp} (h : fn.results = #[.cell p 24, .tmp u, .tmp v]) (tmps : Array Value) {w : World} (b : Nat) {A : Option Addr} {N C : Nat} {k m g : Int} (hp : tmps.getD p undef = .pointer (some ⟨b, 0, none⟩)) (hc : Sx w b A N C k m g) :
    (results fn tmps).run Tryz.prog w = .ok (.tuple #[SS A N C k m g, tmps.getD u undef, tmps.getD v undef]) w := by
  rw [results_cell_tmp3 h, hp]
  simp [Result.andThen, asAddr, ld_ss b hc]
/-- types do not lie in an empty schema -/
theorem iv_off4 {w : World} {A : Option Addr} {N : Nat} {ts : List Int} {b : Nat} {T : TypeId} (h : IV w A N ts) (ht : Ty ts) (hN : 1 ≤ N) (hb : Bk w b nil4 T) : ∀ x, A = some x → x.block ≠ b := by
  intro x hx e
  obtain ⟨b', off, rfl, hc⟩ := IV.at h 0 (by omega)
  cases hx
  have e' : b' = b := e
  subst e'
  have hl : 0 < ts.length := by have := IV.len h; omega
  have h1 := ht _ (List.getElem_mem hl)
  have e2 : ts.getD 0 0 = ts[0] := by simp [List.getD, hl]
  rw [e2] at hc
  have hx : (Value.int .i64 ts[0]) ∈ nil4.toList := by
    simp only [World.cell?] at hc
    rw [hb] at hc
    have := hc
    simp only [Option.isSome_none] at this
    exact Array.mem_toList_iff.2 (Array.mem_of_getElem? (by simpa using this))
  simp at hx
  omega
/-- what Read tells -/
def RdE (w w' : World) (zs : List Int) (e : Ending) : Prop :=
  ((∃ (A : Option Addr) (N C : Nat) (ts : List Int) (K : Nat) (m : Int) (G : Nat) (R : Option Addr) (n c : Nat) (l : List RowV), e = .returned (.tuple #[SS A N C (K : Int) m (G : Int), .slice R n c, .bool true]) ∧ IV w' A N ts ∧ N ≤ C ∧ RVs w' R n l ∧ n ≤ 2000 ∧ Hid (Prt zs ts K m G l)) ∨
    (e = .returned (.tuple #[SS none 0 0 0 0 0, .slice none 0 0, .bool false]) ∧ Hid (NoPrt zs))) ∧ Below w.heap.size w w'
set_option maxHeartbeats 8000000 in
theorem rbread_any (a : Option Addr) (n c : Nat) (zs : List Int) (w : World) (hb : BV w a n zs) (hc : n ≤ c) (hn : n ≤ 1000) :
    Calls Tryz.prog 42 #[.slice a n c] w fun e w' => RdE w w' zs e := by
  have hzl := Lib.hid hb.1
  have hby := Lib.hid hb.2.1
  have hdl := unf_dlen (zs := zs)
  rw [hb.1] at hdl
  have hdb := unf_dbytes hb.2.1
  have t0 := Bk.new w nil4 24
  have hb0 := Joins.below_alloc1 w (.cells nil4 24)
  go_enter Tryz.func42, Tryz.ntmps42
  go_wp2_with fail
  refine (runframe_any a n c zs _ (hb.below hb0) hc (by omega)).mono ?_
  obtain ⟨D, hD⟩ : ∃ D, (unf zs).1 = D := ⟨_, rfl⟩
  obtain ⟨s, hs⟩ : ∃ s, (unf zs).2.1 = s := ⟨_, rfl⟩
  obtain ⟨ev, hev⟩ : ∃ ev, (unf zs).2.2 = ev := ⟨_, rfl⟩
  rw [hD, hs, hev]
  rw [hD] at hdl hdb
  have HU : Hid (unf zs = (D, s, ev)) := Lib.hid (Prod.ext hD (Prod.ext hs hev))
  clear hD hs hev
  rintro e w1 ⟨v, rfl, ho, hb1⟩
  obtain ⟨md, hm⟩ : ∃ md, D.length = md := ⟨_, rfl⟩
  rw [hm] at hdl
  obtain ⟨a1, c1, rfl, hc1, -, bv, -⟩ := ho.bvn hdb md hm
  have t1 := t0.below hb1
  have hw1 := Below.then hb0 hb1
  clear hm ho t0 hb0 hb1 hdb
  by_cases h0 : ev = 0
  rotate_left
  · have hne : ¬ ev = 0 := h0
    have hne2 : (ev == 0) = false := by rw [beq_eq_false_iff_ne]; exact h0
    have HN := Lib.hid (nop_unf (zs := zs) (by rw [HU.out]; exact h0)).prt
    clear h0
    obtain ⟨d0, d1, d2, d3⟩ := t1.sx
    have f0 := t1.free 0
    have f1 := t1.free 1
    have f2 := t1.free 2
    have f3 := t1.free 3
    go_wp2_with fail
    refine bodyPost_ret (res_ss3 rfl _ _ rfl (t1.put4 (.slice none 0 0) (.int .i64 0) (.int .i64 0) (.int .i64 0)).sx) rfl ⟨.inr ⟨rfl, HN⟩, ?_⟩
    exact (((hw1.setCell (by simp) _).setCell (by simp) _).setCell (by simp) _).setCell (by simp) _
  subst h0
  by_cases h8 : n < 8
  · have h8i : (n : Int) < 8 := by omega
    have HN := Lib.hid (nop_few (zs := zs) (by rw [hzl.out]; exact h8)).prt
    obtain ⟨d0, d1, d2, d3⟩ := t1.sx
    have f0 := t1.free 0
    have f1 := t1.free 1
    have f2 := t1.free 2
    have f3 := t1.free 3
    go_wp2_with fail
    refine bodyPost_ret (res_ss3 rfl _ _ rfl (t1.put4 (.slice none 0 0) (.int .i64 0) (.int .i64 0) (.int .i64 0)).sx) rfl ⟨.inr ⟨rfl, HN⟩, ?_⟩
    exact (((hw1.setCell (by simp) _).setCell (by simp) _).setCell (by simp) _).setCell (by simp) _
  have h8i : ¬ (n : Int) < 8 := by omega
  obtain ⟨B, rfl, hBn, -⟩ := unf_told hby.out HU.out
  rw [hzl.out] at hBn
  have hw8 : IntKind.i64.wrap ((n : Int) - 8) = ((n - 8 : Nat) : Int) := by rw [IntKind.wrap_i64]; omega
  go_wp2_with fail
  refine (rtakeS_any a1 md c1 D _ bv hc1 (by omega)).mono ?_
  rintro e w2 (⟨A, N, C, ts, k, m, g, rfl, hNC, hk, hp, iv, hb2⟩ | ⟨rfl, hno, hb2⟩)
  rotate_left
  · have HN := Lib.hid (nop_head (zs := zs) (D := D) (by rw [HU.out]) hno).prt
    have t2 := (t1.below hb2).alloc (.cells #[.slice none 0 0, .int .i64 0, .int .i64 0, .int .i64 0] 24)
    have hw2 := Below.then hw1 hb2
    have hw3 := hw2.alloc hw2.size (.cells #[.slice none 0 0, .int .i64 0, .int .i64 0, .int .i64 0] 24)
    obtain ⟨a4, hsl4, bv4⟩ := (hb.below hw3).slice_lo (n - 8) c (by omega) hc
    clear hno t1 hw1 hb2 bv hw2
    go_wp2_with fail
    refine (rget64_many a4 _ _ _ _ bv4 (by omega)).mono ?_
    rintro e w4 ⟨rfl, rfl⟩
    obtain ⟨d0, d1, d2, d3⟩ := t2.sx
    have f0 := t2.free 0
    have f1 := t2.free 1
    have f2 := t2.free 2
    have f3 := t2.free 3
    go_wp2_with fail
    refine bodyPost_ret (res_ss3 rfl _ _ rfl (t2.put4 (.slice none 0 0) (.int .i64 0) (.int .i64 0) (.int .i64 0)).sx) rfl ⟨.inr ⟨rfl, HN⟩, ?_⟩
    exact (((hw3.setCell (by simp) _).setCell (by simp) _).setCell (by simp) _).setCell (by simp) _
  have t2 := (t1.below hb2).alloc (.cells #[.slice A N C, .int .i64 k, .int .i64 m, .int .i64 g] 24)
  have hw2 := Below.then hw1 hb2
  have hw3 := hw2.alloc hw2.size (.cells #[.slice A N C, .int .i64 k, .int .i64 m, .int .i64 g] 24)
  have x3 := Bk.new w2 #[.slice A N C, .int .i64 k, .int .i64 m, .int .i64 g] 24
  have iv3 := iv.alloc (.cells #[.slice A N C, .int .i64 k, .int .i64 m, .int .i64 g] 24)
  have hk9 := check_is hk
  have HK := Lib.hid hk
  have HPT := Lib.hid hp
  have hln := IV.len iv
  rw [hln] at hk9
  have hN64 : 1 ≤ N ∧ N ≤ 64 := by omega
  have HT : Hid (Ty ts) := Lib.hid hk9.2.2.2.2.2.2.2.2
  have HT1 : Hid (1 ≤ ts.length) := Lib.hid (by omega)
  have HTN : Hid (N = ts.length) := Lib.hid hln.symm
  obtain ⟨K, rfl⟩ : ∃ K : Nat, k = (K : Int) := ⟨k.toNat, by omega⟩
  obtain ⟨G, rfl⟩ : ∃ G : Nat, g = (G : Int) := ⟨g.toNat, by omega⟩
  clear hk9 hk hp t1 hw1 hb2 bv hw2 iv hln
  obtain ⟨a4, hsl4, bv4⟩ := (hb.below hw3).slice_lo (n - 8) c (by omega) hc
  go_wp2_with fail
  generalize w2.alloc (.cells #[.slice A N C, .int .i64 (K : Int), .int .i64 m, .int .i64 (G : Int)] 24) = w3 at *
  generalize w2.heap.size = sb at *
  refine (rget64_many a4 _ _ _ _ bv4 (by omega)).mono ?_
  rintro e w4 ⟨rfl, hw4e⟩
  subst hw4e
  have hlenM : (zs.drop (n - 8)).length = n - (n - 8) := by rw [List.length_drop, hzl.out]
  have hbd := acc8_bd (zs.drop (n - 8)) (fun z hz => hby.out z (List.mem_of_mem_drop hz)) 8 (by rw [hlenM]; omega)
  have hU2 : Hid (unf zs = (putS ts (K : Int) m (G : Int), (B : Int), 0)) := Lib.hid (by rw [HU.out, HPT.out])
  obtain ⟨E0, hE0⟩ : ∃ E0, acc8 (zs.drop (n - 8)) 8 = E0 := ⟨_, rfl⟩
  rw [hE0] at hbd ⊢
  obtain ⟨E, rfl⟩ : ∃ E : Nat, E0 = (E : Int) := ⟨E0.toNat, by omega⟩
  have HE := Lib.hid hE0
  have hnu : IntKind.u64.wrap (n : Int) = (n : Int) := by rw [IntKind.wrap_u64]; omega
  clear hE0 hlenM bv4 hsl4 hw8
  by_cases hq2 : n < E
  · have hqi : (n : Int) < (E : Int) := by omega
    have HN := Lib.hid (nop_far HK.out hzl.out hU2.out HE.out hq2).prt
    obtain ⟨d0, d1, d2, d3⟩ := t2.sx
    have f0 := t2.free 0
    have f1 := t2.free 1
    have f2 := t2.free 2
    have f3 := t2.free 3
    go_wp2_with fail
    refine bodyPost_ret (res_ss3 rfl _ _ rfl (t2.put4 (.slice none 0 0) (.int .i64 0) (.int .i64 0) (.int .i64 0)).sx) rfl ⟨.inr ⟨rfl, HN⟩, ?_⟩
    exact (((hw3.setCell (by simp) _).setCell (by simp) _).setCell (by simp) _).setCell (by simp) _
  have hqi : ¬ (n : Int) < (E : Int) := by omega
  have hEw : IntKind.i64.wrap (E : Int) = (E : Int) := by rw [IntKind.wrap_i64]; omega
  have ho4 := OS.lit (k := 1) w4 w4.heap.size (Nat.le_refl _) [] 0 46 rfl (by simp) (by simp) w4.heap.size rfl
  have hb4 := Joins.below_alloc1 w4 (.cells #[] 46)
  have hRZ := Lib.hid (RdI.zero ts zs B E)
  have hwz : w.heap.size < w4.heap.size := t2.lt
  go_wp2_with fail
  go_loopw [6, 12, 13, 14, 15, 16, 17] (fun at1 ro v13 v14 v15 v16 v17 wr => ∃ (x M : Nat) (ps : List P9), at1 = .int .i64 (x : Int) ∧ x ≤ n ∧ M ≤ 2000 ∧ OS 1 wr w4.heap.size ro M (pc ps) ∧ (∀ p ∈ ps, rowRep.rep wr (sV p.1) p.2 (fun b => w4.heap.size ≤ b ∧ ro.ownBlock ≠ some b)) ∧ Hid (RdI ts zs B E (ps.map (·.2)) x) ∧ Hid (∀ r ∈ ps.map (·.2), RgV r) ∧ Below w4.heap.size w4 wr) (fun at1 _ _ _ _ _ _ _ => n - (intOf at1).toNat)
  case atStart => exact ⟨B, 0, [], rfl, hBn, by omega, ho4, (fun p hp => by cases hp), hRZ, Lib.hid (fun r hr => by cases hr), hb4⟩
  case round =>
    clear ho4 hb4 hRZ
    obtain ⟨x, M, ps, rfl, hx, hM, ho, hpr, HI, HRG, hb5⟩ := hrel
    have hw5 := Below.then hw3 hb5
    have t5 := t2.below hb5
    have x5 := x3.below hb5
    have iv5 := SV.below iv3 hb5
    obtain ⟨c0, c1', c2, c3⟩ := x5.sx
    by_cases hlt : x < E
    · have hxi : (x : Int) < (E : Int) := by omega
      go_wp2_with fail
      clear c0 c1' c2 c3
      refine (rbblocks_any A N C ts a n c x zs _ iv5 HT.out hN64 (hb.below hw5) hc hn hx).mono ?_
      rintro e w6 ⟨he, hb6⟩
      have ho6 := ho.below hb6
      have hpr6 : ∀ p ∈ ps, rowRep.rep w6 (sV p.1) p.2 (fun b => (w4.heap.size ≤ b ∧ u12.ownBlock ≠ some b) ∧ b < w6.heap.size) := fun p hp => rowRep.shrink (Rep.below rowRep (hpr p hp) hb6)
      have t6 := t5.below hb6
      have x6 := x5.below hb6
      have iv6 := SV.below iv5 hb6
      have hb46 := Below.then hb5 hb6
      have hw6 := Below.then hw5 hb6
      clear ho hpr t5 x5 iv5 hb5 hw5 hb6
      rcases he with ⟨R4, c4, y, cs, rfl, hc4, rv4, ⟨hs1, hs2⟩, hcl, HTc, HC⟩ | ⟨rfl, HNo⟩
      · rw [hzl.out] at hs2
        go_wp2_with fail
        refine (rarows_any R4 N c4 cs _ rv4 (by omega) (by omega)).mono ?_
        rintro e w7 ⟨he, hb7⟩
        have hcsl : Hid (cs.length = ts.length) := Lib.hid (by have := rv4.1; rw [this]; exact HTN.out)
        have ho7 := ho6.below hb7
        have hpr7 : ∀ p ∈ ps, rowRep.rep w7 (sV p.1) p.2 (fun b => (w4.heap.size ≤ b ∧ u12.ownBlock ≠ some b) ∧ b < w6.heap.size) := fun p hp => Rep.below rowRep (hpr6 p hp) hb7
        have t7 := t6.below hb7
        have x7 := x6.below hb7
        have iv7 := SV.below iv6 hb7
        have hb47 := Below.then hb46 hb7
        have hw7 := Below.then hw6 hb7
        have hown : Hid (∀ b, u12.ownBlock = some b → b < w6.heap.size) := Lib.hid (fun b hb => (ho6.ownLow hb).2)
        have hs67 := hb7.size
        have hs46 := hb46.size
        clear ho6 hpr6 t6 x6 iv6 hb46 hw6 hb7 rv4
        obtain ⟨m0, hm0⟩ : ∃ m0, (cs.getD 0 []).length = m0 := ⟨_, rfl⟩
        rw [hm0] at he hcl
        rcases he with ⟨hok, A6, C6, rfl, h61, h62, h63, sl6⟩ | ⟨hbad, rfl⟩
        · have hone : Hid (OneG ts (zs.drop x) (rowsC cs m0) (y - x)) := Lib.hid (by have := HTc.out; rw [HTN.out] at this; exact this.one HT1.out hm0)
          have hrok : Hid (RowsOk ts (rowsC cs m0)) := Lib.hid (rowsC_ok hcsl.out (fun i hi => HC.out i (by rw [HTN.out]; exact hi)) (fun i hi => by rw [hok.2 i hi, hm0]))
          have hgl := Lib.hid sl6.1
          have hpl := Lib.hid (show ps.length = M by have := ho7.1; rw [pc_len] at this; omega)
          have hwm : IntKind.i64.wrap ((M : Int) + (m0 : Int)) = (M : Int) + (m0 : Int) := by rw [IntKind.wrap_i64]; omega
          obtain ⟨a6, c6, rfl⟩ := ho7.shape
          by_cases hbig : 2000 < M + m0
          · have hbi : (2000 : Int) < (M : Int) + (m0 : Int) := by omega
            have HN := Lib.hid (nop_rd HK.out hzl.out hU2.out HE.out (HI.out.many hlt hone.out (by rw [List.length_map, hpl.out, hgl.out]; exact hbig))).prt
            clear HI sl6 hpr7 ho7
            obtain ⟨d0, d1, d2, d3⟩ := t7.sx
            have f0 := t7.free 0
            have f1 := t7.free 1
            have f2 := t7.free 2
            have f3 := t7.free 3
            go_wp2_with fail
            refine bodyPost_ret (res_ss3 rfl _ _ rfl (t7.put4 (.slice none 0 0) (.int .i64 0) (.int .i64 0) (.int .i64 0)).sx) rfl ⟨.inr ⟨rfl, HN⟩, ?_⟩
            exact (((hw7.setCell (by simp) _).setCell (by simp) _).setCell (by simp) _).setCell (by simp) _
          · have hbi : ¬ (2000 : Int) < (M : Int) + (m0 : Int) := by omega
            have HI2 := Lib.hid (HI.out.next hlt hone.out)
            obtain ⟨gs, sv7, hgs, hpg⟩ := sl6.pairs
            have HGS := Lib.hid hgs
            have hp7 : ∀ p ∈ gs, rowRep.rep w7 (sV p.1) p.2 (fun b => w6.heap.size ≤ b ∧ b < w7.heap.size) := fun p hp => rowRep.shrink (hpg p hp)
            clear HI sl6 hgs hpg hok hm0
            go_wp2_with (at_builtin; refine append_os2 el_rows rfl (.tmp 91) (.tmp 92) rfl w4.heap.size _ M _ rfl ho7 _ m0 C6 (pc gs) rfl sv7 (by omega) (by omega) hb47.size ?_; intro v8 w8 ho8 hb8 hk8 hst8)
            rw [← pc_app] at ho8
            have hb48 := hb47.trans hb8
            have hsz8 := hb8.size
            have hpr8 : ∀ p ∈ ps ++ gs, rowRep.rep w8 (sV p.1) p.2 (fun b => w4.heap.size ≤ b ∧ v8.ownBlock ≠ some b) := fun p hp => by
              rcases List.mem_append.1 hp with hp | hp
              · refine rowRep.wider (rowRep.frame (hpr7 p hp) (fun b hb hlt => hst8 b hlt hb.1.2)) (fun b hb => ⟨hb.1.1, fun e => ?_⟩)
                rcases hk8 with hk | hk
                · rw [hk] at e; exact hb.1.2 e
                · rw [hk] at e; cases e; omega
              · refine rowRep.wider (rowRep.frame (hp7 p hp) (fun b hb hlt => hst8 b hlt (fun e => by have := hown.out b e; omega))) (fun b hb => ⟨by omega, fun e => ?_⟩)
                rcases hk8 with hk | hk
                · rw [hk] at e; have := hown.out b e; omega
                · rw [hk] at e; cases e; omega
            have HI5 : Hid (RdI ts zs B E ((ps ++ gs).map (·.2)) y) := by rw [List.map_append, HGS.out]; have := HI2.out; rw [show x + (y - x) = y by omega] at this; exact Lib.hid this
            have HR5 : Hid (∀ r ∈ (ps ++ gs).map (·.2), RgV r) := by rw [List.map_append, HGS.out]; exact Lib.hid (fun r hr => (List.mem_append.1 hr).elim (HRG.out r) (hrok.out.rg r))
            clear hpr7 hp7 hst8 hk8 HI2 ho7 sv7 hown
            go_roundw
            case rel => exact ⟨y, M + m0, _, rfl, by omega, by omega, ho8, hpr8, HI5, HR5, hb48⟩
            case measure => simp [intOf]; omega
        · have HN := Lib.hid (nop_rd HK.out hzl.out hU2.out HE.out (HI.out.none hlt (by have := HTc.out; rw [HTN.out] at this; exact this.odd HT1.out hbad))).prt
          clear HI HTc HC hbad hpr7 ho7
          obtain ⟨d0, d1, d2, d3⟩ := t7.sx
          have f0 := t7.free 0
          have f1 := t7.free 1
          have f2 := t7.free 2
          have f3 := t7.free 3
          go_wp2_with fail
          refine bodyPost_ret (res_ss3 rfl _ _ rfl (t7.put4 (.slice none 0 0) (.int .i64 0) (.int .i64 0) (.int .i64 0)).sx) rfl ⟨.inr ⟨rfl, HN⟩, ?_⟩
          exact (((hw7.setCell (by simp) _).setCell (by simp) _).setCell (by simp) _).setCell (by simp) _
      · have HN := Lib.hid (nop_rd HK.out hzl.out hU2.out HE.out (HI.out.none hlt HNo.out)).prt
        clear HI HNo hpr6 ho6
        obtain ⟨d0, d1, d2, d3⟩ := t6.sx
        have f0 := t6.free 0
        have f1 := t6.free 1
        have f2 := t6.free 2
        have f3 := t6.free 3
        go_wp2_with fail
        refine bodyPost_ret (res_ss3 rfl _ _ rfl (t6.put4 (.slice none 0 0) (.int .i64 0) (.int .i64 0) (.int .i64 0)).sx) rfl ⟨.inr ⟨rfl, HN⟩, ?_⟩
        exact (((hw6.setCell (by simp) _).setCell (by simp) _).setCell (by simp) _).setCell (by simp) _
    · have hxi : ¬ (x : Int) < (E : Int) := by omega
      have HIP := Lib.hid (isp_rd HK.out hzl.out hU2.out HE.out (HI.out.end_ (by omega) HT1.out))
      obtain ⟨l, hl⟩ : ∃ l, ps.map (·.2) = l := ⟨_, rfl⟩
      obtain ⟨a7, c7, rfl, h71, h72, sv7, hf7, -⟩ := ho.sv
      have hsl := slR_of (F := fun b => w4.heap.size ≤ b) sv7 (fun p hp => rowRep.wider (hpr p hp) (fun b h => h.1)) hf7
      rw [hl] at HIP HRG hsl
      have hN1 : N ≤ maxLen := by unfold maxLen; omega
      have hM1 : M ≤ maxLen := by unfold maxLen; omega
      clear HI hpr ho sv7 hl
      go_wp2_with fail
      clear c0 c1' c2 c3
      refine (rbwrite_any A N C ts (K : Int) m (G : Int) a7 M c7 l _ iv5 hN1 hsl.rvs hM1 HRG.out).mono ?_
      rintro e w8 (⟨h0, v8, rfl, ou8, hb8⟩ | ⟨hch, rfl, hb8⟩)
      · have hpo := (chE_part h0 HRG.out).1
        rw [Int.toNat_natCast, Int.toNat_natCast] at hpo ou8
        have HP := Lib.hid hpo
        have H0 := Lib.hid h0
        obtain ⟨pl, hpl⟩ : ∃ pl, (partL ts K m G l).length = pl := ⟨_, rfl⟩
        obtain ⟨a8, d8, rfl, -, -, bv8, -⟩ := ou8.ow.bvn hpo.byt pl hpl
        have t8 := t5.below hb8
        have x8 := x5.below hb8
        have iv8 := SV.below iv5 hb8
        have sl8 := hsl.below hb8
        have hw8 := Below.then hw5 hb8
        have h1 := conv_any bv8 d8
        have h2 := conv_any (hb.below hw8) c
        obtain ⟨c0, c1', c2, c3⟩ := x8.sx
        clear hpo h0 hpl ou8 t5 x5 iv5 hw5 hsl
        by_cases heq : partL ts K m G l = zs
        · have HPR : Hid (Prt zs ts K m G l) := Lib.hid ⟨H0.out, HRG.out, heq⟩
          rw [heq] at h1
          obtain ⟨d0, d1, d2, d3⟩ := t8.sx
          have f0 := t8.free 0
          have f1 := t8.free 1
          have f2 := t8.free 2
          have f3 := t8.free 3
          have t9 := t8.put4 (.slice A N C) (.int .i64 (K : Int)) (.int .i64 m) (.int .i64 (G : Int))
          have hoff := iv_off4 iv8 HT.out hN64.1 t8
          clear heq bv8
          go_wp2_with fail
          refine bodyPost_ret (res_ss3 rfl _ _ rfl t9.sx) rfl ⟨.inl ⟨A, N, C, ts, K, m, G, a7, M, c7, l, rfl, ?_, hNC, ?_, hM, HPR⟩, ?_⟩
          · exact SV.other iv8 (fun x hx _ => (Below.heap_setCell _ _ _ _ (hoff x hx)).trans ((Below.heap_setCell _ _ _ _ (hoff x hx)).trans ((Below.heap_setCell _ _ _ _ (hoff x hx)).trans (Below.heap_setCell _ _ _ _ (hoff x hx)))))
          · refine (SlR.frame sl8 (fun b hb _ => ?_)).rvs
            have hbw : b ≠ w.heap.size := by omega
            exact (Below.heap_setCell _ _ _ _ hbw).trans ((Below.heap_setCell _ _ _ _ hbw).trans ((Below.heap_setCell _ _ _ _ hbw).trans (Below.heap_setCell _ _ _ _ hbw)))
          · exact (((hw8.setCell (by simp) _).setCell (by simp) _).setCell (by simp) _).setCell (by simp) _
        · have HN : Hid (NoPrt zs) := Lib.hid (HIP.out.prt (fun hp => heq hp.is))
          have hst : ¬ strOfNums (partL ts K m G l) = strOfNums zs := fun h => heq (strOfNums_inj HP.out.byt hby.out h)
          have hst2 : ((strOfNums (partL ts K m G l)).toList == (strOfNums zs).toList) = false := by rw [beq_eq_false_iff_ne]; exact fun h => hst (toList_inj h)
          clear heq bv8 c0 c1' c2 c3
          obtain ⟨d0, d1, d2, d3⟩ := t8.sx
          have f0 := t8.free 0
          have f1 := t8.free 1
          have f2 := t8.free 2
          have f3 := t8.free 3
          go_wp2_with fail
          refine bodyPost_ret (res_ss3 rfl _ _ rfl (t8.put4 (.slice none 0 0) (.int .i64 0) (.int .i64 0) (.int .i64 0)).sx) rfl ⟨.inr ⟨rfl, HN⟩, ?_⟩
          exact (((hw8.setCell (by simp) _).setCell (by simp) _).setCell (by simp) _).setCell (by simp) _
      · have HN : Hid (NoPrt zs) := Lib.hid (HIP.out.prt (fun hp => hch hp.ok))
        obtain ⟨ce, hce⟩ : ∃ ce, chE ts (K : Int) m (G : Int) l = ce := ⟨_, rfl⟩
        rw [hce] at hch ⊢
        have hne : ¬ ce = 0 := hch
        have t8 := t5.below hb8
        have hw8 := Below.then hw5 hb8
        clear hch hce
        obtain ⟨d0, d1, d2, d3⟩ := t8.sx
        have f0 := t8.free 0
        have f1 := t8.free 1
        have f2 := t8.free 2
        have f3 := t8.free 3
        go_wp2_with fail
        refine bodyPost_ret (res_ss3 rfl _ _ rfl (t8.put4 (.slice none 0 0) (.int .i64 0) (.int .i64 0) (.int .i64 0)).sx) rfl ⟨.inr ⟨rfl, HN⟩, ?_⟩
        exact (((hw8.setCell (by simp) _).setCell (by simp) _).setCell (by simp) _).setCell (by simp) _
end Go.Proofs.YtbfihajgjbpmaaaGreat
/- Stage 11: opened: a part against what the document's own Read tells. -/
namespace Go.Proofs.YtbfihajgjbpmaaaGreat
open Go.ChangeShapes Go.WideShapes Go.ChangeAt Go.RowKit
set_option linter.unusedVariables false
set_option maxRecDepth 4000

theorem os_iv9 {w : World} {base : Nat} {a : Option Addr} {n c : Nat} {ts : List Int} (h : OS 1 w base (.slice a n c) n (icells ts)) : IV w a n ts := by
  obtain ⟨a', c', e, -, -, h3, -⟩ := h.sv
  cases e
  exact h3
/-- what Open told -/
def OpE (w : World) (zs : List Int) (x : Value) (e : Int) : Prop :=
  (∃ (p : Nat) (ts : List Int) (K : Nat) (m : Int) (G : Nat) (l : List RowV), x = .pointer (some ⟨p, 0, none⟩) ∧ e = 0 ∧ PtM w p ts K m G l ∧ Hid (Prt zs ts K m G l)) ∨ (x = .pointer none ∧ e = 43 ∧ Hid (NoPrt zs))
set_option maxHeartbeats 8000000 in
theorem openedB_any (x : Value) (e0 : Int) (a : Option Addr) (n c : Nat) (zs : List Int) (w : World) (hx : OpE w zs x e0) (hb : BV w a n zs) (hc : n ≤ c) (hn : n ≤ 1000) :
    Calls Tryz.prog 14 #[x, .int .i64 e0, .slice a n c] w fun e w' => e = .returned (.bool true) ∧ Below w.heap.size w w' := by
  rcases hx with ⟨p, ts, K, m, G, l, rfl, rfl, pt, HPR⟩ | ⟨rfl, rfl, HNO⟩
  rotate_left
  · go_enter Tryz.func14, Tryz.ntmps14
    go_wp2_with fail
    refine (rbread_any a n c zs _ hb hc hn).mono ?_
    rintro e w1 ⟨⟨A, N, C, ts, K, m, G, R, n1, c1, l, -, -, -, -, -, hp⟩ | ⟨rfl, -⟩, hb1⟩
    · exact absurd hp.out (HNO.out _ _ _ _ _)
    have hw2 := hb1.alloc hb1.size (.cells #[.slice none 0 0, .int .i64 0, .int .i64 0, .int .i64 0] 24)
    go_wp2_with fail
    go_ret
    exact ⟨rfl, hw2⟩
  have HPO := Lib.hid HPR.out.part.1
  go_enter Tryz.func14, Tryz.ntmps14
  go_wp2_with fail
  refine (rbread_any a n c zs _ hb hc hn).mono ?_
  rintro e w1 ⟨⟨A, N, C, ts', K', m', G', R, n1, c1, l', rfl, iv, hNC, rv, hn1, hpr'⟩ | ⟨rfl, hno⟩, hb1⟩
  rotate_left
  · exact absurd HPR.out (hno.out _ _ _ _ _)
  obtain ⟨rfl, rfl, rfl, rfl, rfl⟩ := HPR.out.one hpr'.out
  clear hpr' hb
  have pt2 := (pt.below hb1).below (Joins.below_alloc1 w1 (.cells #[.slice A N C, .int .i64 (K : Int), .int .i64 m, .int .i64 (G : Int)] 24))
  have x2 := Bk.new w1 #[.slice A N C, .int .i64 (K : Int), .int .i64 m, .int .i64 (G : Int)] 24
  have iv2 := iv.alloc (.cells #[.slice A N C, .int .i64 (K : Int), .int .i64 m, .int .i64 (G : Int)] 24)
  have rv2 := rv.alloc (.cells #[.slice A N C, .int .i64 (K : Int), .int .i64 m, .int .i64 (G : Int)] 24)
  have hw2 := hb1.alloc hb1.size (.cells #[.slice A N C, .int .i64 (K : Int), .int .i64 m, .int .i64 (G : Int)] 24)
  have hnum := HPO.out.nums
  have hln := IV.len iv
  have hl1 := Lib.hid rv.1
  have HRL := Lib.hid HPO.out.row_len
  rw [hln] at hnum
  obtain ⟨⟨hN1, hN2⟩, ⟨hK1, hK2⟩, ⟨hG1, hG2⟩, -⟩ := hnum
  have hNm : N ≤ maxLen := few_max (by omega)
  have hnm : n1 ≤ maxLen := few_max (by omega)
  clear pt iv rv hb1 hln
  have hbd : Below (w1.alloc (.cells #[.slice A N C, .int .i64 (K : Int), .int .i64 m, .int .i64 (G : Int)] 24)).heap.size (w1.alloc (.cells #[.slice A N C, .int .i64 (K : Int), .int .i64 m, .int .i64 (G : Int)] 24)) (w1.alloc (.cells #[.slice A N C, .int .i64 (K : Int), .int .i64 m, .int .i64 (G : Int)] 24)).drew := (Below.refl _ _).drew
  have cc := pschema_any (pt2.below hbd) HPO.out
  obtain ⟨c0, c1', c2, c3⟩ := x2.sx
  go_wp2_with fail
  refine wp_region_noPanic ?_
  refine region_g 3 (Ext (World.drew _)) (by kernel_rfl) (Ext.refl _) (fun hS => ?_)
  refine take_w (i := 0) (v := ?_) (some 41) rfl (by kernel_rfl) rfl (fun _ _ _ h => h) (Or.inl ⟨by rfl, ?_⟩) hS ?_
  rotate_left
  · (intro wq hq; go_simp); first | done | with_reducible rfl
  try simp only [Act.put, List.setIfInBounds_toArray, List.set_cons_zero, List.set_cons_succ]
  replace hS := Till.list 0 hS
  refine take_g (i := 2) (v := ?_) [2] (some 43) rfl (by kernel_rfl) rfl (fun _ _ _ h => h) (Or.inl ⟨by rfl, ?_⟩) hS ?_
  rotate_left
  · (intro wq hq; have q0 := hq _ _ _ c0; have q1 := hq _ _ _ c1'; have q2 := hq _ _ _ c2; have q3 := hq _ _ _ c3; go_simp); first | done | with_reducible rfl
  try simp only [Act.put, List.setIfInBounds_toArray, List.set_cons_zero, List.set_cons_succ]
  replace hS := Till.list 2 hS
  refine ready_g (rs := [1]) (by kernel_rfl) (by simp) ?_
  refine AllReadyG.cons rfl (fun Kont hK => ?_) AllReadyG.nil
  go_simp
  refine cc.mono ?_
  rintro e w3 ⟨A3, N3, C3, rfl, o3, hb3⟩
  have iv3 := os_iv9 o3
  have hN3 : N3 ≤ maxLen := few_max (by have h1 := IV.len iv3; have h2 := IV.len iv2; omega)
  have hb3' := hbd.trans hb3
  refine hK.out _ _ (Or.inr ((hS.get (by kernel_rfl)).trans (Ext.below hb3))) (fun hS0 => ?_)
  clear hK Kont
  try simp only [Act.put, List.setIfInBounds_toArray, List.set_cons_zero, List.set_cons_succ]
  clear hS
  have hS := hS0
  clear hS0
  refine ready_g (rs := [3]) (by kernel_rfl) (by simp) ?_
  refine AllReadyG.cons rfl (fun Kont hK => ?_) AllReadyG.nil
  go_simp
  refine (same_any A3 N3 C3 ts K m G A N C ts K m G _ iv3 (SV.below iv2 hb3') hN3 hNm).mono ?_
  rw [show sameS ts (K : Int) m (G : Int) ts (K : Int) m (G : Int) = true from decide_eq_true ⟨rfl, rfl, rfl, rfl⟩]
  rintro e w4 ⟨rfl, hb4⟩
  refine hK.out _ _ (Or.inl (by kernel_rfl)) (fun hS0 => ?_)
  clear hK Kont
  try simp only [Act.put, List.setIfInBounds_toArray, List.set_cons_zero, List.set_cons_succ]
  clear hS
  have hS := hS0
  clear hS0
  refine take_w (i := 4) (v := ?_) (some 10) rfl (by kernel_rfl) rfl (fun _ _ _ h => h) (Or.inl ⟨by rfl, ?_⟩) hS ?_
  rotate_left
  · (intro wq hq; go_simp); first | done | with_reducible rfl
  try simp only [Act.put, List.setIfInBounds_toArray, List.set_cons_zero, List.set_cons_succ]
  replace hS := Till.list 4 hS
  refine done_g (by kernel_rfl) (NoPanic.normal ?_) _
  clear hS
  have hb24 := Below.then hb3' hb4
  have pt4 := pt2.below hb24
  have x4 := x2.below hb24
  have iv4 := SV.below iv2 hb24
  have rv4 := rv2.below hb24
  have hw4 := Below.then hw2 hb24
  clear pt2 x2 iv2 rv2 hw2 hbd cc c0 c1' c2 c3 o3 iv3 hN3 hb3 hb3' hb4 hb24
  generalize w1.heap.size = sb at *
  clear w1 w3
  go_wp2_with fail
  refine (pall_any pt4 HPO.out).mono ?_
  rintro e w5 ⟨g5, rfl, cp, hb5⟩
  have pt5 := pt4.below hb5
  have x5 := x4.below hb5
  have iv5 := SV.below iv4 hb5
  have rv5 := rv4.below hb5
  have hw5 := Below.then hw4 hb5
  rw [hl1.out] at cp ⊢
  clear pt4 x4 iv4 rv4 hw4 hb5
  go_wp2_with fail
  refine (rrows_any _ n1 n1 l R n1 c1 l _ cp.rvs rv5 hnm hnm).mono ?_
  rw [decide_eq_true (rfl : l = l)]
  rintro e w6 ⟨rfl, hb6⟩
  have pt6 := pt5.below hb6
  have x6 := x5.below hb6
  have iv6 := SV.below iv5 hb6
  have rv6 := rv5.below hb6
  have hw6 := Below.then hw5 hb6
  obtain ⟨c0, c1', c2, c3⟩ := x6.sx
  clear pt5 x5 iv5 rv5 hw5 hb6 cp
  go_wp2_with fail
  clear c0 c1' c2 c3
  refine (rasplit_any A N C (K : Int) m G R n1 c1 l _ rv6 (by omega) hG1 (by omega)).mono ?_
  rintro e w7 ⟨A7, C7, rfl, h71, h72, s7, hb7⟩
  have pt7 := pt6.below hb7
  have x7 := x6.below hb7
  have rv7 := rv6.below hb7
  have hw7 := Below.then hw6 hb7
  obtain ⟨c0, c1', c2, c3⟩ := x7.sx
  clear pt6 x6 iv6 rv6 hw6 hb7
  go_wp2_with fail
  clear c0 c1' c2 c3
  refine (ramarks_any A N C K m G R n1 c1 l _ rv7 (by omega) hG1 (by omega) (fun v hv => by have := HRL.out v hv; omega)).mono ?_
  rintro e w8 ⟨v8, rfl, o8, hb8⟩
  obtain ⟨A8, C8, rfl, rv8⟩ := o8.rvs
  have pt8 := pt7.below hb8
  have s8 := s7.below hb8
  have hw8 := Below.then hw7 hb8
  obtain ⟨q, hq⟩ : ∃ q, cntG G n1 = q := ⟨_, rfl⟩
  rw [hq] at s8 rv8 h71
  rw [hq]
  have HQ : Hid (cntG G l.length = q) := Lib.hid (by rw [hl1.out]; exact hq)
  have hqn : q ≤ n1 := by rw [← hq]; exact cntG_le hG1
  clear pt7 x7 s7 rv7 hw7 hb8 o8 hq
  go_wp2_with fail
  refine (prows_any pt8).mono ?_
  rintro e w9 ⟨rfl, hw9⟩
  subst hw9
  rw [hl1.out]
  go_wp2_with fail
  refine (pgrans_any pt8).mono ?_
  rintro e wb ⟨rfl, hwb⟩
  subst hwb
  rw [HQ.out]
  go_wp2_with fail
  go_loopw [14, 15, 16, 17, 18, 19, 20] (fun i v15 v16 v17 v18 v19 v20 wr => ∃ j : Int, i = .int .i64 j ∧ -1 ≤ j ∧ j ≤ (q : Int) + 1 ∧ Below wb.heap.size wb wr) (fun i _ _ _ _ _ _ _ => ((q : Int) + 1 - intOf i).toNat)
  case atStart => exact ⟨-1, rfl, by omega, by omega, Below.refl _ _⟩
  case round =>
    obtain ⟨j, rfl, hj1, hj2, hbw⟩ := hrel
    by_cases hjq : j ≤ (q : Int)
    rotate_left
    · have hji : ¬ j ≤ (q : Int) := hjq
      have hw9 := Below.then hw8 hbw
      clear hjq
      go_wp2_with fail
      go_ret
      exact ⟨rfl, hw9⟩
    have pt9 := pt8.below hbw
    go_wp2_with fail
    refine (pmark_any pt9 HPO.out j).mono ?_
    rintro e wc ⟨hmk, hbc⟩
    have ptc := pt9.below hbc
    clear pt9
    by_cases hin : 0 ≤ j ∧ j < (q : Int)
    rotate_left
    · have hno : hasB (cntG G l.length) j = false := by rw [HQ.out]; exact decide_eq_false hin
      rcases hmk with ⟨hbad, -⟩ | ⟨-, rfl⟩
      · rw [hno] at hbad; cases hbad
      go_wp2_with fail
      refine (pgran_any ptc HPO.out j).mono ?_
      rintro e wd ⟨hgr, hbd⟩
      rcases hgr with ⟨hbad, -⟩ | ⟨-, rfl⟩
      · rw [hno] at hbad; cases hbad
      have hbe := Below.then (Below.then hbw hbc) hbd
      have hjw : IntKind.i64.wrap (j + 1) = j + 1 := by rw [IntKind.wrap_i64]; omega
      by_cases h0 : 0 ≤ j
      · have h1 : ¬ j < (q : Int) := fun h => hin ⟨h0, h⟩
        clear hin hno hbw hbc hbd ptc
        go_wp2_with fail
        go_roundw
        case rel => exact ⟨j + 1, by go_num, by omega, by omega, hbe⟩
        case measure => simp [intOf]; omega
      · clear hin hno hbw hbc hbd ptc
        go_wp2_with fail
        go_roundw
        case rel => exact ⟨j + 1, by go_num, by omega, by omega, hbe⟩
        case measure => simp [intOf]; omega
    have hyes : hasB (cntG G l.length) j = true := by rw [HQ.out]; exact decide_eq_true hin
    rcases hmk with ⟨-, v, rfl, om⟩ | ⟨hbad, -⟩
    rotate_left
    · rw [hyes] at hbad; cases hbad
    go_wp2_with fail
    refine (pgran_any ptc HPO.out j).mono ?_
    rintro e wd ⟨⟨-, gd, rfl, cp⟩ | ⟨hbad, -⟩, hbd⟩
    rotate_left
    · rw [hyes] at hbad; cases hbad
    obtain ⟨k, rfl⟩ : ∃ k : Nat, j = (k : Int) := ⟨j.toNat, by omega⟩
    rw [Int.toNat_natCast] at om cp ⊢
    have hkq : k < q := by omega
    have hkl : k < cntG G l.length := by rw [HQ.out]; exact hkq
    obtain ⟨am, cm, rfl, -, -, svm, -⟩ := om.sv
    have hbe := Below.then (Below.then hbw hbc) hbd
    have hbwc := Below.then hbw hbc
    have h0 : (0 : Int) ≤ (k : Int) := by omega
    have h1 : (k : Int) < (q : Int) := by omega
    obtain ⟨bm, fm, Am, Lm, Cm, em, hcm, hLm, wvm⟩ := rv8.at k hkq
    obtain ⟨bg, fg, ug, eg, hcg, hug⟩ := s8.at k hkq
    cases em
    cases eg
    obtain ⟨A2, L2, C2, rfl, g1, g2, g3, gs⟩ := hug
    rw [splitL_at hkl] at gs
    rw [marksL_at hkl] at wvm
    obtain ⟨mk, hmk⟩ : ∃ mk, (l.getD (k * G) []).take K = mk := ⟨_, rfl⟩
    rw [hmk] at wvm svm
    obtain ⟨gl, hgl⟩ : ∃ gl, granL G l k = gl := ⟨_, rfl⟩
    obtain ⟨gn, hgn⟩ : ∃ gn, gl.length = gn := ⟨_, rfl⟩
    rw [hgl] at gs cp ⊢
    rw [hgn] at cp ⊢
    have hgn2 : gn ≤ maxLen := few_max (by rw [← hgn, ← hgl]; have := (HPO.out.gran_len' hkl).2.1; omega)
    have hgs := gs.1
    have hcm := keepc hcm hbe
    have hcg := keepc hcg hbe
    have hjw : IntKind.i64.wrap ((k : Int) + 1) = (k : Int) + 1 := by rw [IntKind.wrap_i64]; omega
    have hKm : K ≤ maxLen := few_max (by omega)
    have cc1 := one_any am K cm mk Am Lm Cm mk wd (SV.below svm hbd) (SV.below wvm hbe) hKm (by omega)
    rw [decide_eq_true (rfl : mk = mk)] at cc1
    have rvg := gs.rvs.below hbe
    clear om ptc hyes hin hmk hgl hjq gs svm wvm hbc hbd
    go_wp2_with fail
    refine cc1.mono ?_
    rintro e we ⟨rfl, hbf⟩
    have hbg := Below.then hbe hbf
    have hcg := keepc hcg hbf
    have cc2 := rrows_any _ gn gn gl A2 L2 C2 gl we (cp.below hbf).rvs (rvg.below hbf) hgn2 (by omega)
    rw [decide_eq_true (rfl : gl = gl)] at cc2
    clear cc1 hcm
    go_wp2_with fail
    refine cc2.mono ?_
    rintro e wf ⟨rfl, hbh⟩
    have hbi := Below.then hbg hbh
    clear cc2 hcg cp rvg
    go_wp2_with fail
    go_roundw
    case rel => exact ⟨(k : Int) + 1, by go_num, by omega, by omega, hbi⟩
    case measure => simp [intOf]; omega
end Go.Proofs.YtbfihajgjbpmaaaGreat
