/- SchemaAll: the walk. -/
import Derived.Test.YtllgnafbemmcaaaS4n
import Derived.Test.YtllgnafbemmcaaaS4u
import Derived.Test.YtllgnafbemmcaaaS4z
namespace Go.Proofs.Ytllgnafbemmcaaa
open Go.ChangeShapes Go.WideShapes Go.ChangeAt Go.RowKit
set_option linter.unusedVariables false

/-- what Take tells of bytes -/
def Told (zs ts : List Int) (k m g E : Int) : Prop := (checkB ts k m g = true ∧ putS ts k m g = zs ∧ E = 0) ∨ (NoS zs ∧ ts = [] ∧ k = 0 ∧ m = 0 ∧ g = 0 ∧ E = 10)
theorem Told.one {zs ts us : List Int} {k m g E k' m' g' E' : Int} (h : Told zs ts k m g E) (h' : Told zs us k' m' g' E') : ts = us ∧ k = k' ∧ m = m' ∧ g = g' ∧ E = E' := by
  rcases h with ⟨h1, h2, h3⟩ | ⟨h1, h2, h3, h4, h5, h6⟩ <;> rcases h' with ⟨q1, q2, q3⟩ | ⟨q1, q2, q3, q4, q5, q6⟩
  · obtain ⟨e1, e2, e3, e4⟩ := putS_inj h1 q1 (h2.trans q2.symm)
    exact ⟨e1, e2, e3, e4, h3.trans q3.symm⟩
  · exact absurd h2 (q1 _ _ _ _ h1)
  · exact absurd q2 (h1 _ _ _ _ q1)
  · exact ⟨h2.trans q2.symm, h3.trans q3.symm, h4.trans q4.symm, h5.trans q5.symm, h6.trans q6.symm⟩
theorem TakeE.get {w w' : World} {zs : List Int} {e : Ending} (h : TakeE w w' zs e) : ∃ (A : Option Addr) (N C : Nat) (ts : List Int) (k m g E : Int), e = .returned (.tuple #[SS A N C k m g, .int .i64 E]) ∧ IV w' A N ts ∧ N ≤ 64 ∧ Told zs ts k m g E ∧ Below w.heap.size w w' := by
  rcases h with ⟨A, N, C, ts, k, m, g, he, h1, h2, h3, h4⟩ | ⟨he, h1, h2⟩
  · exact ⟨A, N, C, ts, k, m, g, 0, he, h3, by have := IV.len h3; have := (check_is h1).2.1; omega, .inl ⟨h1, h2, rfl⟩, h4⟩
  · exact ⟨none, 0, 0, [], 0, 0, 0, 10, he, SV.zero _ _, by omega, .inr ⟨h1, rfl, rfl, rfl, rfl, rfl⟩, h2⟩
set_option maxRecDepth 20000 in
set_option maxHeartbeats 8000000 in
theorem all_is (A : Option Addr) (N C : Nat) (ts : List Int) (k m g : Int) (R : Option Addr) (n c : Nat) (vss : List (List (Int × ByteArray))) (B : Option Addr) (nb cb : Nat) (zs : List Int) (w : World)
    (hv : IV w A N ts) (hNC : N ≤ C) (hN : N ≤ maxLen) (hr : RVs w R n vss) (hn : n ≤ maxLen) (hz : BV w B nb zs) (hzc : nb ≤ cb) :
    Calls Try.prog 3 #[SS A N C k m g, .slice R n c, .slice B nb cb] w fun e w' => e = .returned (.bool true) ∧ Below w.heap.size w w' := by
  have t := Bk.new w #[.slice A N C, .int .i64 k, .int .i64 m, .int .i64 g] 24
  have hn' := hn
  unfold maxLen at hn'
  go_enter Try.func3, Try.ntmps3
  go_wp2_with fail
  refine (shown4_is _).mono ?_
  rintro e w1 ⟨rfl, hb1⟩
  replace t := t.below hb1
  have hb := after1 hb1
  clear hb1
  obtain ⟨c0, c1, c2, c3⟩ := t.sx
  go_wp2_with fail
  clear c0 c1 c2 c3
  refine (few_any A N C ts k m g _ (hv.below hb) hNC hN).mono ?_
  rintro e w2 ⟨M, rfl, hM7, hMN, hb2⟩
  replace t := t.below hb2
  replace hb := Below.then hb hb2
  clear hb2
  have hus := IV.takes hv M hMN
  obtain ⟨us, hu⟩ : ∃ us, ts.take M = us := ⟨_, rfl⟩
  rw [hu] at hus
  clear hu hv hNC hN hMN
  have hM1 : M ≤ maxLen := few_max (by omega)
  obtain ⟨c0, c1, c2, c3⟩ := t.sx
  have f0 := t.free 0
  have f1 := t.free 1
  have f2 := t.free 2
  have f3 := t.free 3
  go_wp2_with fail
  clear c0 c1 c2 c3 f0 f1 f2 f3
  have hlt2 := t.lt
  replace t := (t.put4 (.slice A M C) (.int .i64 k) (.int .i64 m) (.int .i64 g)).alloc (.cells #[] 30)
  replace hb := (((hb.setCell (p := ⟨w.heap.size, 0, none⟩) (by simp) (.slice A M C)).setCell (p := ⟨w.heap.size, 1, none⟩) (by simp) (.int .i64 k)).setCell (p := ⟨w.heap.size, 2, none⟩) (by simp) (.int .i64 m)).setCell (p := ⟨w.heap.size, 3, none⟩) (by simp) (.int .i64 g)
  generalize hWW : (((w2.setCell ⟨w.heap.size, 0, none⟩ (.slice A M C)).setCell ⟨w.heap.size, 1, none⟩ (.int .i64 k)).setCell ⟨w.heap.size, 2, none⟩ (.int .i64 m)).setCell ⟨w.heap.size, 3, none⟩ (.int .i64 g) = W3 at *
  have hs3 : W3.heap.size = w2.heap.size := by rw [← hWW]; simp
  clear hWW
  have hlt3 : w.heap.size < W3.heap.size := by omega
  have or0 : OwnRows (W3.alloc (.cells #[] 30)) (w.heap.size + 1) (.slice (some ⟨w2.heap.size, 0, none⟩) 0 0) 0 [] := ⟨[], OS.lit (k := 1) W3 (w.heap.size + 1) (by omega) [] 0 30 rfl (by simp) (by simp) _ hs3.symm, rfl, fun i hi => by omega⟩
  replace hb := hb.alloc (by omega) (.cells #[] 30)
  generalize W3.alloc (.cells #[] 30) = w4 at *
  generalize (Value.slice (some ⟨w2.heap.size, 0, none⟩) 0 0) = v8 at or0
  clear hs3 hlt3
  go_loopw [8, 9] (fun o i wr => ∃ (j : Nat) (rs : List (List (Int × ByteArray))), j ≤ n ∧ j ≤ 70 ∧ i = .int .i64 (j : Int) ∧ OwnRows wr (w.heap.size + 1) o j rs ∧ Bk wr w.heap.size #[.slice A M C, .int .i64 k, .int .i64 m, .int .i64 g] 24 ∧ Below w.heap.size w wr) (fun _ i _ => 70 - (intOf i).toNat)
  case atStart => exact ⟨0, [], by omega, by omega, rfl, or0, t, hb⟩
  case round =>
    clear or0 t hb
    obtain ⟨j, rs, hj, hj7, rfl, orr, t, hb⟩ := hrel
    by_cases hlt : j < n
    · by_cases h7 : j < 70
      · obtain ⟨b, off, A1, L1, C1, rfl, hc, hL1, hw1⟩ := hr.at j hlt
        have hc := keepc hc hb
        have hw1 := hw1.below hb
        have hji : (j : Int) < (n : Int) := by omega
        have hj70 : (j : Int) < 70 := by omega
        obtain ⟨rj, hrj⟩ : ∃ rj, vss.getD j [] = rj := ⟨_, rfl⟩
        rw [hrj] at hw1
        clear hrj
        go_wp2_with fail
        refine (short4_any A1 L1 C1 rj _ hw1 hL1).mono ?_
        rintro e w5 ⟨M5, a5, c5, rfl, hM5, o5, hb5⟩
        have ro5 : RO w5 u8.ownBlock (.slice a5 M5 c5) (shortR rj) := RO.own o5 orr.lt
        replace orr := orr.below hb5
        replace t := t.below hb5
        replace hb := Below.then hb hb5
        have hs5 := t.lt
        clear hb5 hc hw1 o5
        obtain ⟨cs, ocs, hlr, hro⟩ := orr
        have ho6 := ocs.alloc (.cells #[.slice a5 M5 c5] 30)
        have hcl : cs.length = j := by have := ocs.1; omega
        go_wp2_with (refine append_os2 el_rows rfl (.tmp 36) (.tmp 38) rfl (w.heap.size + 1) u8 j _ rfl ho6 _ 1 1 [.slice a5 M5 c5] rfl (SV.lit' (k := 1) w5 [.slice a5 M5 c5] 1 30 rfl (by simp [Value.oneCell']) _ rfl) (by omega) (by omega) (by simp; omega) ?_; intro v6 w6 ho7 hb6 hk6 hst6)
        have hba := Joins.below_alloc1 w5 (.cells #[.slice a5 M5 c5] 30)
        have or6 := OwnRows.snoc (v := u8) ho7 hlr hcl (fun i hi => (hro i hi).below hba) (ro5.below hba) hk6 hst6
        have rat := row_keep (ro5.below hba) hst6
        have t6 := (t.alloc (.cells #[.slice a5 M5 c5] 30)).low hb6 (by omega)
        have hb7 := (hb.alloc hb.size (.cells #[.slice a5 M5 c5] 30)).trans (hb6.mono (by omega))
        clear ho6 ho7 hb6 hk6 hst6 hba ro5 hro ocs hlr hcl cs t hb
        obtain ⟨_, _, _, hA, h51, h52, -, wv5, -⟩ := rat
        cases hA
        have hus6 := hus.below hb7
        obtain ⟨c0, c1, c2, c3⟩ := t6.sx
        refine wp_region_noPanic ?_
        refine region_g 7 (Ext (World.drew _)) (by kernel_rfl) (Ext.refl _) (fun hS => ?_)
        refine take_n (i := 0) (v := ?_) (some 40) rfl (by kernel_rfl) rfl (fun _ _ _ h => h) (Or.inl ⟨by rfl, ?_⟩) hS ?_
        rotate_left
        · (intro wq hq; have q0 := hq _ _ _ c0; have q1 := hq _ _ _ c1; have q2 := hq _ _ _ c2; have q3 := hq _ _ _ c3; go_simp); first | done | with_reducible rfl
        try simp only [Act.put, List.setIfInBounds_toArray, List.set_cons_zero, List.set_cons_succ]
        replace hS := Till.list 0 hS
        refine take_w (i := 1) (v := ?_) (some 41) rfl (by kernel_rfl) rfl (fun _ _ _ h => h) (Or.inl ⟨by rfl, ?_⟩) hS ?_
        rotate_left
        · (intro wq hq; go_simp); first | done | with_reducible rfl
        try simp only [Act.put, List.setIfInBounds_toArray, List.set_cons_zero, List.set_cons_succ]
        replace hS := Till.list 1 hS
        refine take_n (i := 3) (v := ?_) (some 43) rfl (by kernel_rfl) rfl (fun _ _ _ h => h) (Or.inl ⟨by rfl, ?_⟩) hS ?_
        rotate_left
        · (intro wq hq; have q0 := hq _ _ _ c0; have q1 := hq _ _ _ c1; have q2 := hq _ _ _ c2; have q3 := hq _ _ _ c3; go_simp); first | done | with_reducible rfl
        try simp only [Act.put, List.setIfInBounds_toArray, List.set_cons_zero, List.set_cons_succ]
        replace hS := Till.list 3 hS
        refine take_w (i := 4) (v := ?_) (some 44) rfl (by kernel_rfl) rfl (fun _ _ _ h => h) (Or.inl ⟨by rfl, ?_⟩) hS ?_
        rotate_left
        · (intro wq hq; go_simp); first | done | with_reducible rfl
        try simp only [Act.put, List.setIfInBounds_toArray, List.set_cons_zero, List.set_cons_succ]
        replace hS := Till.list 4 hS
        refine ready_g (rs := [2]) (by kernel_rfl) (by simp) ?_
        refine AllReadyG.cons rfl (fun Kont hK => ?_) AllReadyG.nil
        go_simp
        refine (row_any A M C us k m g a5 M5 c5 (shortR rj) _ hus6.drew hM1 wv5.drew (few_max (by omega))).mono ?_
        rintro e w7 ⟨rfl, hb8⟩
        have hus7 := hus6.drew.below hb8
        have wv7 := wv5.drew.below hb8
        refine hK.out _ _ (Or.inr ((hS.get (by kernel_rfl)).trans (Ext.below hb8))) (fun hS0 => ?_)
        clear hK Kont
        try simp only [Act.put, List.setIfInBounds_toArray, List.set_cons_zero, List.set_cons_succ]
        clear hS
        have hS := hS0
        clear hS0
        refine ready_g (rs := [5]) (by kernel_rfl) (by simp) ?_
        refine AllReadyG.cons rfl (fun Kont hK => ?_) AllReadyG.nil
        go_simp
        refine (rrow_any A M C us k m g a5 M5 c5 (shortR rj) _ hus7 hM1 wv7 (few_max (by omega))).mono ?_
        generalize rowB us (shortR rj) = q
        rintro e w8 ⟨rfl, hb9⟩
        refine hK.out _ _ (Or.inr ((hS.get (by kernel_rfl)).trans (Ext.below hb9))) (fun hS0 => ?_)
        clear hK Kont
        try simp only [Act.put, List.setIfInBounds_toArray, List.set_cons_zero, List.set_cons_succ]
        clear hS
        have hS := hS0
        clear hS0
        refine take_w (i := 6) (v := ?_) (some 46) rfl (by kernel_rfl) rfl (fun _ _ _ h => h) (Or.inl ⟨by rfl, ?_⟩) hS ?_
        rotate_left
        · (intro wq hq; go_simp); first | done | with_reducible rfl
        try simp only [Act.put, List.setIfInBounds_toArray, List.set_cons_zero, List.set_cons_succ]
        replace hS := Till.list 6 hS
        refine done_g (by kernel_rfl) (NoPanic.normal ?_) _
        clear hS
        have hbx := Below.then (Below.then (Below.refl _ w6).drew hb8) hb9
        replace or6 := or6.below hbx
        replace t6 := t6.below hbx
        replace hb7 := Below.then hb7 hbx
        clear hb8 hb9 hbx hus6 hus7 wv5 wv7 c0 c1 c2 c3
        go_wp2_with fail
        go_roundw
        case rel => exact ⟨j + 1, _, by omega, by omega, by go_num, or6, t6, hb7⟩
        case measure => simp [intOf]; omega
      · have hj70 : ¬ (j : Int) < 70 := by omega
        have hji : (j : Int) < (n : Int) := by omega
        obtain ⟨aR, cR, rfl, rvs⟩ := orr.rvs
        have hz0 := hz.below hb
        have hjm : j ≤ maxLen := few_max (by omega)
        have husr := hus.below hb
        by_cases h300 : nb ≤ 300
        · have h300i : ¬ (300 : Int) < (nb : Int) := by omega
          go_wp2_with fail
          refine (take_any B nb cb zs _ hz0 (by omega) (by omega)).mono ?_
          rintro e wa hea
          obtain ⟨Aa, Na, Ca, ta, ka, ma, ga, Ea, rfl, iva, hNa, tola, hba⟩ := hea.get
          clear hea
          replace t := t.below hba
          replace rvs := rvs.below hba
          replace hz0 := hz0.below hba
          replace husr := husr.below hba
          replace hb := Below.then hb hba
          clear hba
          replace t := t.alloc (.cells #[.slice Aa Na Ca, .int .i64 ka, .int .i64 ma, .int .i64 ga] 24)
          replace rvs := rvs.alloc (.cells #[.slice Aa Na Ca, .int .i64 ka, .int .i64 ma, .int .i64 ga] 24)
          replace hz0 := hz0.alloc (.cells #[.slice Aa Na Ca, .int .i64 ka, .int .i64 ma, .int .i64 ga] 24)
          replace husr := husr.alloc (.cells #[.slice Aa Na Ca, .int .i64 ka, .int .i64 ma, .int .i64 ga] 24)
          replace iva := iva.alloc (.cells #[.slice Aa Na Ca, .int .i64 ka, .int .i64 ma, .int .i64 ga] 24)
          have xa := Sx.new wa Aa Na Ca ka ma ga 24
          replace hb := hb.alloc hb.size (.cells #[.slice Aa Na Ca, .int .i64 ka, .int .i64 ma, .int .i64 ga] 24)
          go_wp2_with fail
          generalize wa.alloc (.cells #[.slice Aa Na Ca, .int .i64 ka, .int .i64 ma, .int .i64 ga] 24) = wb at *
          generalize wa.heap.size = ba at *
          refine (rtake_any B nb cb zs _ hz0 (by omega) (by omega)).mono ?_
          rintro e wc hec
          obtain ⟨Ac, Nc, Cc, tc, kc, mc, gc, Ec, rfl, ivc, hNc, tolc, hbc⟩ := hec.get
          clear hec
          obtain ⟨rfl, rfl, rfl, rfl, rfl⟩ := Told.one tolc tola
          clear tola tolc hz0
          replace t := t.below hbc
          replace rvs := rvs.below hbc
          replace husr := husr.below hbc
          replace iva := iva.below hbc
          replace xa := xa.below hbc
          replace hb := Below.then hb hbc
          clear hbc
          replace t := t.alloc (.cells #[.slice Ac Nc Cc, .int .i64 kc, .int .i64 mc, .int .i64 gc] 24)
          replace rvs := rvs.alloc (.cells #[.slice Ac Nc Cc, .int .i64 kc, .int .i64 mc, .int .i64 gc] 24)
          replace husr := husr.alloc (.cells #[.slice Ac Nc Cc, .int .i64 kc, .int .i64 mc, .int .i64 gc] 24)
          replace iva := iva.alloc (.cells #[.slice Ac Nc Cc, .int .i64 kc, .int .i64 mc, .int .i64 gc] 24)
          replace ivc := ivc.alloc (.cells #[.slice Ac Nc Cc, .int .i64 kc, .int .i64 mc, .int .i64 gc] 24)
          replace xa := xa.alloc (.cells #[.slice Ac Nc Cc, .int .i64 kc, .int .i64 mc, .int .i64 gc] 24)
          have xc := Sx.new wc Ac Nc Cc kc mc gc 24
          replace hb := hb.alloc hb.size (.cells #[.slice Ac Nc Cc, .int .i64 kc, .int .i64 mc, .int .i64 gc] 24)
          obtain ⟨a0, a1, a2, a3⟩ := id xa
          obtain ⟨d0, d1, d2, d3⟩ := id xc
          go_wp2_with fail
          clear a0 a1 a2 a3 d0 d1 d2 d3 xa xc
          generalize wc.alloc (.cells #[.slice Ac Nc Cc, .int .i64 kc, .int .i64 mc, .int .i64 gc] 24) = wd at *
          refine (same_any Aa Na Ca tc kc mc gc Ac Nc Cc tc kc mc gc _ iva ivc (few_max (by omega)) (few_max (by omega))).mono ?_
          rw [show sameS tc kc mc gc tc kc mc gc = true from decide_eq_true ⟨rfl, rfl, rfl, rfl⟩]
          rintro e we ⟨rfl, hbe⟩
          replace t := t.below hbe
          replace rvs := rvs.below hbe
          replace husr := husr.below hbe
          replace hb := Below.then hb hbe
          clear hbe iva ivc
          obtain ⟨c0, c1, c2, c3⟩ := t.sx
          go_wp2_with fail
          clear c0 c1 c2 c3
          refine (check_any A M C us k m g _ husr hM1).mono ?_
          obtain ⟨ce, hce⟩ : ∃ ce, chkE us k m g = ce := ⟨_, rfl⟩
          rw [hce]
          have HCE := Lib.hid hce
          clear hce
          rintro e wf ⟨rfl, hbf⟩
          replace t := t.below hbf
          replace rvs := rvs.below hbf
          replace husr := husr.below hbf
          replace hb := Below.then hb hbf
          clear hbf
          obtain ⟨c0, c1, c2, c3⟩ := t.sx
          go_wp2_with fail
          refine wp_region_noPanic ?_
          refine region_g 22 (Ext (World.drew _)) (by kernel_rfl) (Ext.refl _) (fun hS => ?_)
          refine take_w (i := 0) (v := ?_) (some 67) rfl (by kernel_rfl) rfl (fun _ _ _ h => h) (Or.inl ⟨by rfl, ?_⟩) hS ?_
          rotate_left
          · (intro wq hq; go_simp); first | done | with_reducible rfl
          try simp only [Act.put, List.setIfInBounds_toArray, List.set_cons_zero, List.set_cons_succ]
          replace hS := Till.list 0 hS
          refine take_n (i := 1) (v := ?_) (some 68) rfl (by kernel_rfl) rfl (fun _ _ _ h => h) (Or.inl ⟨by rfl, ?_⟩) hS ?_
          rotate_left
          · (intro wq hq; have q0 := hq _ _ _ c0; have q1 := hq _ _ _ c1; have q2 := hq _ _ _ c2; have q3 := hq _ _ _ c3; go_simp); first | done | with_reducible rfl
          try simp only [Act.put, List.setIfInBounds_toArray, List.set_cons_zero, List.set_cons_succ]
          replace hS := Till.list 1 hS
          refine ready_g (rs := [2]) (by kernel_rfl) (by simp) ?_
          refine AllReadyG.cons rfl (fun Kont hK => ?_) AllReadyG.nil
          go_simp
          refine (rcheck_any A M C us k m g _ husr.drew hM1).mono ?_
          rw [HCE.out]
          rintro e wg ⟨rfl, hbg⟩
          have hug := husr.drew.below hbg
          have hrg := (RVs.below (w := wf.drew) rvs hbg)
          refine hK.out _ _ (Or.inr ((hS.get (by kernel_rfl)).trans (Ext.below hbg))) (fun hS0 => ?_)
          clear hK Kont
          try simp only [Act.put, List.setIfInBounds_toArray, List.set_cons_zero, List.set_cons_succ]
          clear hS
          have hS := hS0
          clear hS0
          refine take_w (i := 3) (v := ?_) (some 70) rfl (by kernel_rfl) rfl (fun _ _ _ h => h) (Or.inl ⟨by rfl, ?_⟩) hS ?_
          rotate_left
          · (intro wq hq; go_simp); first | done | with_reducible rfl
          try simp only [Act.put, List.setIfInBounds_toArray, List.set_cons_zero, List.set_cons_succ]
          replace hS := Till.list 3 hS
          refine take_w (i := 4) (v := ?_) (some 71) rfl (by kernel_rfl) rfl (fun _ _ _ h => h) (Or.inl ⟨by rfl, ?_⟩) hS ?_
          rotate_left
          · (intro wq hq; go_simp); first | done | with_reducible rfl
          try simp only [Act.put, List.setIfInBounds_toArray, List.set_cons_zero, List.set_cons_succ]
          replace hS := Till.list 4 hS
          refine take_n (i := 5) (v := ?_) (some 72) rfl (by kernel_rfl) rfl (fun _ _ _ h => h) (Or.inl ⟨by rfl, ?_⟩) hS ?_
          rotate_left
          · (intro wq hq; have q0 := hq _ _ _ c0; have q1 := hq _ _ _ c1; have q2 := hq _ _ _ c2; have q3 := hq _ _ _ c3; go_simp); first | done | with_reducible rfl
          try simp only [Act.put, List.setIfInBounds_toArray, List.set_cons_zero, List.set_cons_succ]
          replace hS := Till.list 5 hS
          refine take_w (i := 6) (v := ?_) (some 73) rfl (by kernel_rfl) rfl (fun _ _ _ h => h) (Or.inl ⟨by rfl, ?_⟩) hS ?_
          rotate_left
          · (intro wq hq; go_simp); first | done | with_reducible rfl
          try simp only [Act.put, List.setIfInBounds_toArray, List.set_cons_zero, List.set_cons_succ]
          replace hS := Till.list 6 hS
          refine take_n (i := 8) (v := ?_) (some 75) rfl (by kernel_rfl) rfl (fun _ _ _ h => h) (Or.inl ⟨by rfl, ?_⟩) hS ?_
          rotate_left
          · (intro wq hq; have q0 := hq _ _ _ c0; have q1 := hq _ _ _ c1; have q2 := hq _ _ _ c2; have q3 := hq _ _ _ c3; go_simp); first | done | with_reducible rfl
          try simp only [Act.put, List.setIfInBounds_toArray, List.set_cons_zero, List.set_cons_succ]
          replace hS := Till.list 8 hS
          refine take_w (i := 9) (v := ?_) (some 76) rfl (by kernel_rfl) rfl (fun _ _ _ h => h) (Or.inl ⟨by rfl, ?_⟩) hS ?_
          rotate_left
          · (intro wq hq; go_simp); first | done | with_reducible rfl
          try simp only [Act.put, List.setIfInBounds_toArray, List.set_cons_zero, List.set_cons_succ]
          replace hS := Till.list 9 hS
          refine ready_g (rs := [7]) (by kernel_rfl) (by simp) ?_
          refine AllReadyG.cons rfl (fun Kont hK => ?_) AllReadyG.nil
          go_simp
          refine (batch_any A M C us k m g aR j cR rs _ hug hM1 hrg hjm).mono ?_
          obtain ⟨be, hbe⟩ : ∃ be, batE us rs = be := ⟨_, rfl⟩
          rw [hbe]
          have HBE := Lib.hid hbe
          clear hbe
          rintro e wh ⟨rfl, hbh⟩
          have huh := hug.below hbh
          have hrh := hrg.below hbh
          refine hK.out _ _ (Or.inr ((hS.get (by kernel_rfl)).trans (Ext.below hbh))) (fun hS0 => ?_)
          clear hK Kont
          try simp only [Act.put, List.setIfInBounds_toArray, List.set_cons_zero, List.set_cons_succ]
          clear hS
          have hS := hS0
          clear hS0
          refine ready_g (rs := [10]) (by kernel_rfl) (by simp) ?_
          refine AllReadyG.cons rfl (fun Kont hK => ?_) AllReadyG.nil
          go_simp
          refine (rbatch_any A M C us k m g aR j cR rs _ huh hM1 hrh hjm).mono ?_
          rw [HBE.out]
          rintro e wi ⟨rfl, hbi⟩
          refine hK.out _ _ (Or.inr ((hS.get (by kernel_rfl)).trans (Ext.below hbi))) (fun hS0 => ?_)
          clear hK Kont
          try simp only [Act.put, List.setIfInBounds_toArray, List.set_cons_zero, List.set_cons_succ]
          clear hS
          have hS := hS0
          clear hS0
          refine take_w (i := 11) (v := ?_) (some 78) rfl (by kernel_rfl) rfl (fun _ _ _ h => h) (Or.inl ⟨by rfl, ?_⟩) hS ?_
          rotate_left
          · (intro wq hq; go_simp); first | done | with_reducible rfl
          try simp only [Act.put, List.setIfInBounds_toArray, List.set_cons_zero, List.set_cons_succ]
          replace hS := Till.list 11 hS
          refine take_w (i := 12) (v := ?_) (some 79) rfl (by kernel_rfl) rfl (fun _ _ _ h => h) (Or.inl ⟨by rfl, ?_⟩) hS ?_
          rotate_left
          · (intro wq hq; go_simp); first | done | with_reducible rfl
          try simp only [Act.put, List.setIfInBounds_toArray, List.set_cons_zero, List.set_cons_succ]
          replace hS := Till.list 12 hS
          refine take_w (i := 13) (v := ?_) (some 80) rfl (by kernel_rfl) rfl (fun _ _ _ h => h) (Or.inl ⟨by rfl, ?_⟩) hS ?_
          rotate_left
          · (intro wq hq; go_simp); first | done | with_reducible rfl
          try simp only [Act.put, List.setIfInBounds_toArray, List.set_cons_zero, List.set_cons_succ]
          replace hS := Till.list 13 hS
          refine take_w (i := 14) (v := ?_) (some 81) rfl (by kernel_rfl) rfl (fun _ _ _ h => h) (Or.inl ⟨by rfl, ?_⟩) hS ?_
          rotate_left
          · (intro wq hq; go_simp); first | done | with_reducible rfl
          try simp only [Act.put, List.setIfInBounds_toArray, List.set_cons_zero, List.set_cons_succ]
          replace hS := Till.list 14 hS
          refine take_w (i := 15) (v := ?_) (some 82) rfl (by kernel_rfl) rfl (fun _ _ _ h => h) (Or.inl ⟨by rfl, ?_⟩) hS ?_
          rotate_left
          · (intro wq hq; go_simp); first | done | with_reducible rfl
          try simp only [Act.put, List.setIfInBounds_toArray, List.set_cons_zero, List.set_cons_succ]
          replace hS := Till.list 15 hS
          refine take_w (i := 16) (v := ?_) (some 83) rfl (by kernel_rfl) rfl (fun _ _ _ h => h) (Or.inl ⟨by rfl, ?_⟩) hS ?_
          rotate_left
          · (intro wq hq; go_simp); first | done | with_reducible rfl
          try simp only [Act.put, List.setIfInBounds_toArray, List.set_cons_zero, List.set_cons_succ]
          replace hS := Till.list 16 hS
          refine take_w (i := 17) (v := ?_) (some 84) rfl (by kernel_rfl) rfl (fun _ _ _ h => h) (Or.inl ⟨by rfl, ?_⟩) hS ?_
          rotate_left
          · (intro wq hq; go_simp); first | done | with_reducible rfl
          try simp only [Act.put, List.setIfInBounds_toArray, List.set_cons_zero, List.set_cons_succ]
          replace hS := Till.list 17 hS
          refine take_w (i := 18) (v := ?_) (some 85) rfl (by kernel_rfl) rfl (fun _ _ _ h => h) (Or.inl ⟨by rfl, ?_⟩) hS ?_
          rotate_left
          · (intro wq hq; go_simp); first | done | with_reducible rfl
          try simp only [Act.put, List.setIfInBounds_toArray, List.set_cons_zero, List.set_cons_succ]
          replace hS := Till.list 18 hS
          refine take_w (i := 19) (v := ?_) (some 86) rfl (by kernel_rfl) rfl (fun _ _ _ h => h) (Or.inl ⟨by rfl, ?_⟩) hS ?_
          rotate_left
          · (intro wq hq; go_simp); first | done | with_reducible rfl
          try simp only [Act.put, List.setIfInBounds_toArray, List.set_cons_zero, List.set_cons_succ]
          replace hS := Till.list 19 hS
          refine take_w (i := 20) (v := ?_) (some 87) rfl (by kernel_rfl) rfl (fun _ _ _ h => h) (Or.inl ⟨by rfl, ?_⟩) hS ?_
          rotate_left
          · (intro wq hq; go_simp); first | done | with_reducible rfl
          try simp only [Act.put, List.setIfInBounds_toArray, List.set_cons_zero, List.set_cons_succ]
          replace hS := Till.list 20 hS
          refine take_w (i := 21) (v := ?_) (some 88) rfl (by kernel_rfl) rfl (fun _ _ _ h => h) (Or.inl ⟨by rfl, ?_⟩) hS ?_
          rotate_left
          · (intro wq hq; go_simp); first | done | with_reducible rfl
          try simp only [Act.put, List.setIfInBounds_toArray, List.set_cons_zero, List.set_cons_succ]
          replace hS := Till.list 21 hS
          refine done_g (by kernel_rfl) (NoPanic.normal ?_) _
          clear hS
          have hbx := Below.then (Below.then (Below.then (Below.refl _ wf).drew hbg) hbh) hbi
          replace t := t.below hbx
          replace husr := husr.below hbx
          replace hb := Below.then hb hbx
          clear hbg hbh hbi hbx hug huh hrg hrh rvs c0 c1 c2 c3
          obtain ⟨c0, c1, c2, c3⟩ := t.sx
          cases hck : checkB us k m g
          · have hce : ce = 20 := by rw [← HCE.out, chkE, hck]; rfl
            subst hce
            clear hck
            go_wp2_with fail
            refine wp_region_noPanic ?_
            refine region_g 15 (Ext (World.drew _)) (by kernel_rfl) (Ext.refl _) (fun hS => ?_)
            refine take_w (i := 0) (v := ?_) (some 89) rfl (by kernel_rfl) rfl (fun _ _ _ h => h) (Or.inl ⟨by rfl, ?_⟩) hS ?_
            rotate_left
            · (intro wq hq; go_simp); first | done | with_reducible rfl
            try simp only [Act.put, List.setIfInBounds_toArray, List.set_cons_zero, List.set_cons_succ]
            replace hS := Till.list 0 hS
            refine take_w (i := 1) (v := ?_) (some 90) rfl (by kernel_rfl) rfl (fun _ _ _ h => h) (Or.inl ⟨by rfl, ?_⟩) hS ?_
            rotate_left
            · (intro wq hq; go_simp); first | done | with_reducible rfl
            try simp only [Act.put, List.setIfInBounds_toArray, List.set_cons_zero, List.set_cons_succ]
            replace hS := Till.list 1 hS
            refine take_w (i := 2) (v := ?_) (some 91) rfl (by kernel_rfl) rfl (fun _ _ _ h => h) (Or.inl ⟨by rfl, ?_⟩) hS ?_
            rotate_left
            · (intro wq hq; go_simp); first | done | with_reducible rfl
            try simp only [Act.put, List.setIfInBounds_toArray, List.set_cons_zero, List.set_cons_succ]
            replace hS := Till.list 2 hS
            refine take_w (i := 3) (v := ?_) (some 92) rfl (by kernel_rfl) rfl (fun _ _ _ h => h) (Or.inl ⟨by rfl, ?_⟩) hS ?_
            rotate_left
            · (intro wq hq; go_simp); first | done | with_reducible rfl
            try simp only [Act.put, List.setIfInBounds_toArray, List.set_cons_zero, List.set_cons_succ]
            replace hS := Till.list 3 hS
            refine take_w (i := 4) (v := ?_) (some 93) rfl (by kernel_rfl) rfl (fun _ _ _ h => h) (Or.inl ⟨by rfl, ?_⟩) hS ?_
            rotate_left
            · (intro wq hq; go_simp); first | done | with_reducible rfl
            try simp only [Act.put, List.setIfInBounds_toArray, List.set_cons_zero, List.set_cons_succ]
            replace hS := Till.list 4 hS
            refine take_w (i := 5) (v := undef) (some 94) rfl (by kernel_rfl) rfl (fun _ _ _ h => h) (Or.inr ⟨by rfl, rfl⟩) hS ?_
            try simp only [Act.put, List.setIfInBounds_toArray, List.set_cons_zero, List.set_cons_succ]
            replace hS := Till.list 5 hS
            refine take_w (i := 8) (v := undef) (some 97) rfl (by kernel_rfl) rfl (fun _ _ _ h => h) (Or.inr ⟨by rfl, rfl⟩) hS ?_
            try simp only [Act.put, List.setIfInBounds_toArray, List.set_cons_zero, List.set_cons_succ]
            replace hS := Till.list 8 hS
            refine take_w (i := 6) (v := undef) (some 95) rfl (by kernel_rfl) rfl (fun _ _ _ h => h) (Or.inr ⟨by rfl, rfl⟩) hS ?_
            try simp only [Act.put, List.setIfInBounds_toArray, List.set_cons_zero, List.set_cons_succ]
            replace hS := Till.list 6 hS
            refine take_w (i := 7) (v := undef) (some 96) rfl (by kernel_rfl) rfl (fun _ _ _ h => h) (Or.inr ⟨by rfl, rfl⟩) hS ?_
            try simp only [Act.put, List.setIfInBounds_toArray, List.set_cons_zero, List.set_cons_succ]
            replace hS := Till.list 7 hS
            refine take_w (i := 9) (v := undef) (some 98) rfl (by kernel_rfl) rfl (fun _ _ _ h => h) (Or.inr ⟨by rfl, rfl⟩) hS ?_
            try simp only [Act.put, List.setIfInBounds_toArray, List.set_cons_zero, List.set_cons_succ]
            replace hS := Till.list 9 hS
            refine take_w (i := 10) (v := undef) (some 99) rfl (by kernel_rfl) rfl (fun _ _ _ h => h) (Or.inr ⟨by rfl, rfl⟩) hS ?_
            try simp only [Act.put, List.setIfInBounds_toArray, List.set_cons_zero, List.set_cons_succ]
            replace hS := Till.list 10 hS
            refine take_w (i := 11) (v := undef) (some 100) rfl (by kernel_rfl) rfl (fun _ _ _ h => h) (Or.inr ⟨by rfl, rfl⟩) hS ?_
            try simp only [Act.put, List.setIfInBounds_toArray, List.set_cons_zero, List.set_cons_succ]
            replace hS := Till.list 11 hS
            refine take_w (i := 12) (v := ?_) (some 101) rfl (by kernel_rfl) rfl (fun _ _ _ h => h) (Or.inl ⟨by rfl, ?_⟩) hS ?_
            rotate_left
            · (intro wq hq; go_simp); first | done | with_reducible rfl
            try simp only [Act.put, List.setIfInBounds_toArray, List.set_cons_zero, List.set_cons_succ]
            replace hS := Till.list 12 hS
            refine take_w (i := 13) (v := ?_) (some 102) rfl (by kernel_rfl) rfl (fun _ _ _ h => h) (Or.inl ⟨by rfl, ?_⟩) hS ?_
            rotate_left
            · (intro wq hq; go_simp); first | done | with_reducible rfl
            try simp only [Act.put, List.setIfInBounds_toArray, List.set_cons_zero, List.set_cons_succ]
            replace hS := Till.list 13 hS
            refine take_w (i := 14) (v := ?_) (some 6) rfl (by kernel_rfl) rfl (fun _ _ _ h => h) (Or.inl ⟨by rfl, ?_⟩) hS ?_
            rotate_left
            · (intro wq hq; go_simp); first | done | with_reducible rfl
            try simp only [Act.put, List.setIfInBounds_toArray, List.set_cons_zero, List.set_cons_succ]
            replace hS := Till.list 14 hS
            refine done_g (by kernel_rfl) (NoPanic.normal ?_) _
            clear hS
            go_wp2_with fail
            go_ret
            exact ⟨rfl, hb.drew⟩
          · have hce : ce = 0 := by rw [← HCE.out, chkE, hck]; rfl
            subst hce
            have HK := Lib.hid hck
            clear hck
            go_wp2_with fail
            refine wp_region_noPanic ?_
            refine region_g 15 (Ext (World.drew _)) (by kernel_rfl) (Ext.refl _) (fun hS => ?_)
            refine take_w (i := 0) (v := ?_) (some 89) rfl (by kernel_rfl) rfl (fun _ _ _ h => h) (Or.inl ⟨by rfl, ?_⟩) hS ?_
            rotate_left
            · (intro wq hq; go_simp); first | done | with_reducible rfl
            try simp only [Act.put, List.setIfInBounds_toArray, List.set_cons_zero, List.set_cons_succ]
            replace hS := Till.list 0 hS
            refine take_w (i := 1) (v := ?_) (some 90) rfl (by kernel_rfl) rfl (fun _ _ _ h => h) (Or.inl ⟨by rfl, ?_⟩) hS ?_
            rotate_left
            · (intro wq hq; go_simp); first | done | with_reducible rfl
            try simp only [Act.put, List.setIfInBounds_toArray, List.set_cons_zero, List.set_cons_succ]
            replace hS := Till.list 1 hS
            refine take_w (i := 2) (v := ?_) (some 91) rfl (by kernel_rfl) rfl (fun _ _ _ h => h) (Or.inl ⟨by rfl, ?_⟩) hS ?_
            rotate_left
            · (intro wq hq; go_simp); first | done | with_reducible rfl
            try simp only [Act.put, List.setIfInBounds_toArray, List.set_cons_zero, List.set_cons_succ]
            replace hS := Till.list 2 hS
            refine take_w (i := 3) (v := ?_) (some 92) rfl (by kernel_rfl) rfl (fun _ _ _ h => h) (Or.inl ⟨by rfl, ?_⟩) hS ?_
            rotate_left
            · (intro wq hq; go_simp); first | done | with_reducible rfl
            try simp only [Act.put, List.setIfInBounds_toArray, List.set_cons_zero, List.set_cons_succ]
            replace hS := Till.list 3 hS
            refine take_w (i := 4) (v := ?_) (some 93) rfl (by kernel_rfl) rfl (fun _ _ _ h => h) (Or.inl ⟨by rfl, ?_⟩) hS ?_
            rotate_left
            · (intro wq hq; go_simp); first | done | with_reducible rfl
            try simp only [Act.put, List.setIfInBounds_toArray, List.set_cons_zero, List.set_cons_succ]
            replace hS := Till.list 4 hS
            refine take_n (i := 5) (v := ?_) (some 94) rfl (by kernel_rfl) rfl (fun _ _ _ h => h) (Or.inl ⟨by rfl, ?_⟩) hS ?_
            rotate_left
            · (intro wq hq; have q0 := hq _ _ _ c0; have q1 := hq _ _ _ c1; have q2 := hq _ _ _ c2; have q3 := hq _ _ _ c3; go_simp); first | done | with_reducible rfl
            try simp only [Act.put, List.setIfInBounds_toArray, List.set_cons_zero, List.set_cons_succ]
            replace hS := Till.list 5 hS
            refine take_n (i := 8) (v := ?_) (some 97) rfl (by kernel_rfl) rfl (fun _ _ _ h => h) (Or.inl ⟨by rfl, ?_⟩) hS ?_
            rotate_left
            · (intro wq hq; have q0 := hq _ _ _ c0; have q1 := hq _ _ _ c1; have q2 := hq _ _ _ c2; have q3 := hq _ _ _ c3; go_simp); first | done | with_reducible rfl
            try simp only [Act.put, List.setIfInBounds_toArray, List.set_cons_zero, List.set_cons_succ]
            replace hS := Till.list 8 hS
            refine ready_g (rs := [6]) (by kernel_rfl) (by simp) ?_
            refine AllReadyG.cons rfl (fun Kont hK => ?_) AllReadyG.nil
            go_simp
            refine (put_any A M C us k m g _ husr.drew HK.out).mono ?_
            rintro e wj ⟨vj, rfl, oj, hbj⟩
            obtain ⟨aj, cj, rfl, -, -, bj, -⟩ := oj.bvn (put_bytes HK.out) _ rfl
            have huj := husr.drew.below hbj
            refine hK.out _ _ (Or.inr ((hS.get (by kernel_rfl)).trans (Ext.below hbj))) (fun hS0 => ?_)
            clear hK Kont
            try simp only [Act.put, List.setIfInBounds_toArray, List.set_cons_zero, List.set_cons_succ]
            clear hS
            refine now_t (by kernel_rfl) hS0 (fun hS => ?_)
            clear hS0
            refine take_n (i := 7) (v := .string (strOfNums (putS us k m g))) (some 96) rfl (by kernel_rfl) rfl (fun _ _ _ h => h) (Or.inl ⟨by rfl, ?_⟩) hS ?_
            · (intro wq hq; (have hcv := conv_any (bj.ext hq) cj; go_simp))
            try simp only [Act.put, List.setIfInBounds_toArray, List.set_cons_zero, List.set_cons_succ]
            replace hS := Till.list 7 hS
            refine ready_g (rs := [9]) (by kernel_rfl) (by simp) ?_
            refine AllReadyG.cons rfl (fun Kont hK => ?_) AllReadyG.nil
            go_simp
            refine (rput_any A M C us k m g _ huj HK.out).mono ?_
            rintro e wk ⟨vk, rfl, ok, hbk⟩
            obtain ⟨ak, ck, rfl, -, -, bk, -⟩ := ok.bvn (put_bytes HK.out) _ rfl
            refine hK.out _ _ (Or.inr ((hS.get (by kernel_rfl)).trans (Ext.below hbk))) (fun hS0 => ?_)
            clear hK Kont
            try simp only [Act.put, List.setIfInBounds_toArray, List.set_cons_zero, List.set_cons_succ]
            clear hS
            refine now_t (by kernel_rfl) hS0 (fun hS => ?_)
            clear hS0
            refine take_n (i := 10) (v := .string (strOfNums (putS us k m g))) (some 99) rfl (by kernel_rfl) rfl (fun _ _ _ h => h) (Or.inl ⟨by rfl, ?_⟩) hS ?_
            · (intro wq hq; (have hcv := conv_any (bk.ext hq) ck; go_simp))
            try simp only [Act.put, List.setIfInBounds_toArray, List.set_cons_zero, List.set_cons_succ]
            replace hS := Till.list 10 hS
            refine take_w (i := 11) (v := ?_) (some 100) rfl (by kernel_rfl) rfl (fun _ _ _ h => h) (Or.inl ⟨by rfl, ?_⟩) hS ?_
            rotate_left
            · (intro wq hq; go_simp); first | done | with_reducible rfl
            try simp only [Act.put, List.setIfInBounds_toArray, List.set_cons_zero, List.set_cons_succ]
            replace hS := Till.list 11 hS
            refine take_w (i := 12) (v := ?_) (some 101) rfl (by kernel_rfl) rfl (fun _ _ _ h => h) (Or.inl ⟨by rfl, ?_⟩) hS ?_
            rotate_left
            · (intro wq hq; go_simp); first | done | with_reducible rfl
            try simp only [Act.put, List.setIfInBounds_toArray, List.set_cons_zero, List.set_cons_succ]
            replace hS := Till.list 12 hS
            refine take_w (i := 13) (v := ?_) (some 102) rfl (by kernel_rfl) rfl (fun _ _ _ h => h) (Or.inl ⟨by rfl, ?_⟩) hS ?_
            rotate_left
            · (intro wq hq; go_simp); first | done | with_reducible rfl
            try simp only [Act.put, List.setIfInBounds_toArray, List.set_cons_zero, List.set_cons_succ]
            replace hS := Till.list 13 hS
            refine take_w (i := 14) (v := ?_) (some 6) rfl (by kernel_rfl) rfl (fun _ _ _ h => h) (Or.inl ⟨by rfl, ?_⟩) hS ?_
            rotate_left
            · (intro wq hq; go_simp); first | done | with_reducible rfl
            try simp only [Act.put, List.setIfInBounds_toArray, List.set_cons_zero, List.set_cons_succ]
            replace hS := Till.list 14 hS
            refine done_g (by kernel_rfl) (NoPanic.normal ?_) _
            clear hS
            have hbx := Below.then (Below.then hb.drew hbj) hbk
            go_wp2_with fail
            go_ret
            exact ⟨rfl, hbx⟩
        · have h300i : (300 : Int) < (nb : Int) := by omega
          have h300c : 300 ≤ cb := by omega
          replace hz0 := hz0.take 300 (by omega)
          go_wp2_with fail
          refine (take_any B 300 cb (zs.take 300) _ hz0 (by omega) (by omega)).mono ?_
          rintro e wa hea
          obtain ⟨Aa, Na, Ca, ta, ka, ma, ga, Ea, rfl, iva, hNa, tola, hba⟩ := hea.get
          clear hea
          replace t := t.below hba
          replace rvs := rvs.below hba
          replace hz0 := hz0.below hba
          replace husr := husr.below hba
          replace hb := Below.then hb hba
          clear hba
          replace t := t.alloc (.cells #[.slice Aa Na Ca, .int .i64 ka, .int .i64 ma, .int .i64 ga] 24)
          replace rvs := rvs.alloc (.cells #[.slice Aa Na Ca, .int .i64 ka, .int .i64 ma, .int .i64 ga] 24)
          replace hz0 := hz0.alloc (.cells #[.slice Aa Na Ca, .int .i64 ka, .int .i64 ma, .int .i64 ga] 24)
          replace husr := husr.alloc (.cells #[.slice Aa Na Ca, .int .i64 ka, .int .i64 ma, .int .i64 ga] 24)
          replace iva := iva.alloc (.cells #[.slice Aa Na Ca, .int .i64 ka, .int .i64 ma, .int .i64 ga] 24)
          have xa := Sx.new wa Aa Na Ca ka ma ga 24
          replace hb := hb.alloc hb.size (.cells #[.slice Aa Na Ca, .int .i64 ka, .int .i64 ma, .int .i64 ga] 24)
          go_wp2_with fail
          generalize wa.alloc (.cells #[.slice Aa Na Ca, .int .i64 ka, .int .i64 ma, .int .i64 ga] 24) = wb at *
          generalize wa.heap.size = ba at *
          refine (rtake_any B 300 cb (zs.take 300) _ hz0 (by omega) (by omega)).mono ?_
          rintro e wc hec
          obtain ⟨Ac, Nc, Cc, tc, kc, mc, gc, Ec, rfl, ivc, hNc, tolc, hbc⟩ := hec.get
          clear hec
          obtain ⟨rfl, rfl, rfl, rfl, rfl⟩ := Told.one tolc tola
          clear tola tolc hz0
          replace t := t.below hbc
          replace rvs := rvs.below hbc
          replace husr := husr.below hbc
          replace iva := iva.below hbc
          replace xa := xa.below hbc
          replace hb := Below.then hb hbc
          clear hbc
          replace t := t.alloc (.cells #[.slice Ac Nc Cc, .int .i64 kc, .int .i64 mc, .int .i64 gc] 24)
          replace rvs := rvs.alloc (.cells #[.slice Ac Nc Cc, .int .i64 kc, .int .i64 mc, .int .i64 gc] 24)
          replace husr := husr.alloc (.cells #[.slice Ac Nc Cc, .int .i64 kc, .int .i64 mc, .int .i64 gc] 24)
          replace iva := iva.alloc (.cells #[.slice Ac Nc Cc, .int .i64 kc, .int .i64 mc, .int .i64 gc] 24)
          replace ivc := ivc.alloc (.cells #[.slice Ac Nc Cc, .int .i64 kc, .int .i64 mc, .int .i64 gc] 24)
          replace xa := xa.alloc (.cells #[.slice Ac Nc Cc, .int .i64 kc, .int .i64 mc, .int .i64 gc] 24)
          have xc := Sx.new wc Ac Nc Cc kc mc gc 24
          replace hb := hb.alloc hb.size (.cells #[.slice Ac Nc Cc, .int .i64 kc, .int .i64 mc, .int .i64 gc] 24)
          obtain ⟨a0, a1, a2, a3⟩ := id xa
          obtain ⟨d0, d1, d2, d3⟩ := id xc
          go_wp2_with fail
          clear a0 a1 a2 a3 d0 d1 d2 d3 xa xc
          generalize wc.alloc (.cells #[.slice Ac Nc Cc, .int .i64 kc, .int .i64 mc, .int .i64 gc] 24) = wd at *
          refine (same_any Aa Na Ca tc kc mc gc Ac Nc Cc tc kc mc gc _ iva ivc (few_max (by omega)) (few_max (by omega))).mono ?_
          rw [show sameS tc kc mc gc tc kc mc gc = true from decide_eq_true ⟨rfl, rfl, rfl, rfl⟩]
          rintro e we ⟨rfl, hbe⟩
          replace t := t.below hbe
          replace rvs := rvs.below hbe
          replace husr := husr.below hbe
          replace hb := Below.then hb hbe
          clear hbe iva ivc
          obtain ⟨c0, c1, c2, c3⟩ := t.sx
          go_wp2_with fail
          clear c0 c1 c2 c3
          refine (check_any A M C us k m g _ husr hM1).mono ?_
          obtain ⟨ce, hce⟩ : ∃ ce, chkE us k m g = ce := ⟨_, rfl⟩
          rw [hce]
          have HCE := Lib.hid hce
          clear hce
          rintro e wf ⟨rfl, hbf⟩
          replace t := t.below hbf
          replace rvs := rvs.below hbf
          replace husr := husr.below hbf
          replace hb := Below.then hb hbf
          clear hbf
          obtain ⟨c0, c1, c2, c3⟩ := t.sx
          go_wp2_with fail
          refine wp_region_noPanic ?_
          refine region_g 22 (Ext (World.drew _)) (by kernel_rfl) (Ext.refl _) (fun hS => ?_)
          refine take_w (i := 0) (v := ?_) (some 67) rfl (by kernel_rfl) rfl (fun _ _ _ h => h) (Or.inl ⟨by rfl, ?_⟩) hS ?_
          rotate_left
          · (intro wq hq; go_simp); first | done | with_reducible rfl
          try simp only [Act.put, List.setIfInBounds_toArray, List.set_cons_zero, List.set_cons_succ]
          replace hS := Till.list 0 hS
          refine take_n (i := 1) (v := ?_) (some 68) rfl (by kernel_rfl) rfl (fun _ _ _ h => h) (Or.inl ⟨by rfl, ?_⟩) hS ?_
          rotate_left
          · (intro wq hq; have q0 := hq _ _ _ c0; have q1 := hq _ _ _ c1; have q2 := hq _ _ _ c2; have q3 := hq _ _ _ c3; go_simp); first | done | with_reducible rfl
          try simp only [Act.put, List.setIfInBounds_toArray, List.set_cons_zero, List.set_cons_succ]
          replace hS := Till.list 1 hS
          refine ready_g (rs := [2]) (by kernel_rfl) (by simp) ?_
          refine AllReadyG.cons rfl (fun Kont hK => ?_) AllReadyG.nil
          go_simp
          refine (rcheck_any A M C us k m g _ husr.drew hM1).mono ?_
          rw [HCE.out]
          rintro e wg ⟨rfl, hbg⟩
          have hug := husr.drew.below hbg
          have hrg := (RVs.below (w := wf.drew) rvs hbg)
          refine hK.out _ _ (Or.inr ((hS.get (by kernel_rfl)).trans (Ext.below hbg))) (fun hS0 => ?_)
          clear hK Kont
          try simp only [Act.put, List.setIfInBounds_toArray, List.set_cons_zero, List.set_cons_succ]
          clear hS
          have hS := hS0
          clear hS0
          refine take_w (i := 3) (v := ?_) (some 70) rfl (by kernel_rfl) rfl (fun _ _ _ h => h) (Or.inl ⟨by rfl, ?_⟩) hS ?_
          rotate_left
          · (intro wq hq; go_simp); first | done | with_reducible rfl
          try simp only [Act.put, List.setIfInBounds_toArray, List.set_cons_zero, List.set_cons_succ]
          replace hS := Till.list 3 hS
          refine take_w (i := 4) (v := ?_) (some 71) rfl (by kernel_rfl) rfl (fun _ _ _ h => h) (Or.inl ⟨by rfl, ?_⟩) hS ?_
          rotate_left
          · (intro wq hq; go_simp); first | done | with_reducible rfl
          try simp only [Act.put, List.setIfInBounds_toArray, List.set_cons_zero, List.set_cons_succ]
          replace hS := Till.list 4 hS
          refine take_n (i := 5) (v := ?_) (some 72) rfl (by kernel_rfl) rfl (fun _ _ _ h => h) (Or.inl ⟨by rfl, ?_⟩) hS ?_
          rotate_left
          · (intro wq hq; have q0 := hq _ _ _ c0; have q1 := hq _ _ _ c1; have q2 := hq _ _ _ c2; have q3 := hq _ _ _ c3; go_simp); first | done | with_reducible rfl
          try simp only [Act.put, List.setIfInBounds_toArray, List.set_cons_zero, List.set_cons_succ]
          replace hS := Till.list 5 hS
          refine take_w (i := 6) (v := ?_) (some 73) rfl (by kernel_rfl) rfl (fun _ _ _ h => h) (Or.inl ⟨by rfl, ?_⟩) hS ?_
          rotate_left
          · (intro wq hq; go_simp); first | done | with_reducible rfl
          try simp only [Act.put, List.setIfInBounds_toArray, List.set_cons_zero, List.set_cons_succ]
          replace hS := Till.list 6 hS
          refine take_n (i := 8) (v := ?_) (some 75) rfl (by kernel_rfl) rfl (fun _ _ _ h => h) (Or.inl ⟨by rfl, ?_⟩) hS ?_
          rotate_left
          · (intro wq hq; have q0 := hq _ _ _ c0; have q1 := hq _ _ _ c1; have q2 := hq _ _ _ c2; have q3 := hq _ _ _ c3; go_simp); first | done | with_reducible rfl
          try simp only [Act.put, List.setIfInBounds_toArray, List.set_cons_zero, List.set_cons_succ]
          replace hS := Till.list 8 hS
          refine take_w (i := 9) (v := ?_) (some 76) rfl (by kernel_rfl) rfl (fun _ _ _ h => h) (Or.inl ⟨by rfl, ?_⟩) hS ?_
          rotate_left
          · (intro wq hq; go_simp); first | done | with_reducible rfl
          try simp only [Act.put, List.setIfInBounds_toArray, List.set_cons_zero, List.set_cons_succ]
          replace hS := Till.list 9 hS
          refine ready_g (rs := [7]) (by kernel_rfl) (by simp) ?_
          refine AllReadyG.cons rfl (fun Kont hK => ?_) AllReadyG.nil
          go_simp
          refine (batch_any A M C us k m g aR j cR rs _ hug hM1 hrg hjm).mono ?_
          obtain ⟨be, hbe⟩ : ∃ be, batE us rs = be := ⟨_, rfl⟩
          rw [hbe]
          have HBE := Lib.hid hbe
          clear hbe
          rintro e wh ⟨rfl, hbh⟩
          have huh := hug.below hbh
          have hrh := hrg.below hbh
          refine hK.out _ _ (Or.inr ((hS.get (by kernel_rfl)).trans (Ext.below hbh))) (fun hS0 => ?_)
          clear hK Kont
          try simp only [Act.put, List.setIfInBounds_toArray, List.set_cons_zero, List.set_cons_succ]
          clear hS
          have hS := hS0
          clear hS0
          refine ready_g (rs := [10]) (by kernel_rfl) (by simp) ?_
          refine AllReadyG.cons rfl (fun Kont hK => ?_) AllReadyG.nil
          go_simp
          refine (rbatch_any A M C us k m g aR j cR rs _ huh hM1 hrh hjm).mono ?_
          rw [HBE.out]
          rintro e wi ⟨rfl, hbi⟩
          refine hK.out _ _ (Or.inr ((hS.get (by kernel_rfl)).trans (Ext.below hbi))) (fun hS0 => ?_)
          clear hK Kont
          try simp only [Act.put, List.setIfInBounds_toArray, List.set_cons_zero, List.set_cons_succ]
          clear hS
          have hS := hS0
          clear hS0
          refine take_w (i := 11) (v := ?_) (some 78) rfl (by kernel_rfl) rfl (fun _ _ _ h => h) (Or.inl ⟨by rfl, ?_⟩) hS ?_
          rotate_left
          · (intro wq hq; go_simp); first | done | with_reducible rfl
          try simp only [Act.put, List.setIfInBounds_toArray, List.set_cons_zero, List.set_cons_succ]
          replace hS := Till.list 11 hS
          refine take_w (i := 12) (v := ?_) (some 79) rfl (by kernel_rfl) rfl (fun _ _ _ h => h) (Or.inl ⟨by rfl, ?_⟩) hS ?_
          rotate_left
          · (intro wq hq; go_simp); first | done | with_reducible rfl
          try simp only [Act.put, List.setIfInBounds_toArray, List.set_cons_zero, List.set_cons_succ]
          replace hS := Till.list 12 hS
          refine take_w (i := 13) (v := ?_) (some 80) rfl (by kernel_rfl) rfl (fun _ _ _ h => h) (Or.inl ⟨by rfl, ?_⟩) hS ?_
          rotate_left
          · (intro wq hq; go_simp); first | done | with_reducible rfl
          try simp only [Act.put, List.setIfInBounds_toArray, List.set_cons_zero, List.set_cons_succ]
          replace hS := Till.list 13 hS
          refine take_w (i := 14) (v := ?_) (some 81) rfl (by kernel_rfl) rfl (fun _ _ _ h => h) (Or.inl ⟨by rfl, ?_⟩) hS ?_
          rotate_left
          · (intro wq hq; go_simp); first | done | with_reducible rfl
          try simp only [Act.put, List.setIfInBounds_toArray, List.set_cons_zero, List.set_cons_succ]
          replace hS := Till.list 14 hS
          refine take_w (i := 15) (v := ?_) (some 82) rfl (by kernel_rfl) rfl (fun _ _ _ h => h) (Or.inl ⟨by rfl, ?_⟩) hS ?_
          rotate_left
          · (intro wq hq; go_simp); first | done | with_reducible rfl
          try simp only [Act.put, List.setIfInBounds_toArray, List.set_cons_zero, List.set_cons_succ]
          replace hS := Till.list 15 hS
          refine take_w (i := 16) (v := ?_) (some 83) rfl (by kernel_rfl) rfl (fun _ _ _ h => h) (Or.inl ⟨by rfl, ?_⟩) hS ?_
          rotate_left
          · (intro wq hq; go_simp); first | done | with_reducible rfl
          try simp only [Act.put, List.setIfInBounds_toArray, List.set_cons_zero, List.set_cons_succ]
          replace hS := Till.list 16 hS
          refine take_w (i := 17) (v := ?_) (some 84) rfl (by kernel_rfl) rfl (fun _ _ _ h => h) (Or.inl ⟨by rfl, ?_⟩) hS ?_
          rotate_left
          · (intro wq hq; go_simp); first | done | with_reducible rfl
          try simp only [Act.put, List.setIfInBounds_toArray, List.set_cons_zero, List.set_cons_succ]
          replace hS := Till.list 17 hS
          refine take_w (i := 18) (v := ?_) (some 85) rfl (by kernel_rfl) rfl (fun _ _ _ h => h) (Or.inl ⟨by rfl, ?_⟩) hS ?_
          rotate_left
          · (intro wq hq; go_simp); first | done | with_reducible rfl
          try simp only [Act.put, List.setIfInBounds_toArray, List.set_cons_zero, List.set_cons_succ]
          replace hS := Till.list 18 hS
          refine take_w (i := 19) (v := ?_) (some 86) rfl (by kernel_rfl) rfl (fun _ _ _ h => h) (Or.inl ⟨by rfl, ?_⟩) hS ?_
          rotate_left
          · (intro wq hq; go_simp); first | done | with_reducible rfl
          try simp only [Act.put, List.setIfInBounds_toArray, List.set_cons_zero, List.set_cons_succ]
          replace hS := Till.list 19 hS
          refine take_w (i := 20) (v := ?_) (some 87) rfl (by kernel_rfl) rfl (fun _ _ _ h => h) (Or.inl ⟨by rfl, ?_⟩) hS ?_
          rotate_left
          · (intro wq hq; go_simp); first | done | with_reducible rfl
          try simp only [Act.put, List.setIfInBounds_toArray, List.set_cons_zero, List.set_cons_succ]
          replace hS := Till.list 20 hS
          refine take_w (i := 21) (v := ?_) (some 88) rfl (by kernel_rfl) rfl (fun _ _ _ h => h) (Or.inl ⟨by rfl, ?_⟩) hS ?_
          rotate_left
          · (intro wq hq; go_simp); first | done | with_reducible rfl
          try simp only [Act.put, List.setIfInBounds_toArray, List.set_cons_zero, List.set_cons_succ]
          replace hS := Till.list 21 hS
          refine done_g (by kernel_rfl) (NoPanic.normal ?_) _
          clear hS
          have hbx := Below.then (Below.then (Below.then (Below.refl _ wf).drew hbg) hbh) hbi
          replace t := t.below hbx
          replace husr := husr.below hbx
          replace hb := Below.then hb hbx
          clear hbg hbh hbi hbx hug huh hrg hrh rvs c0 c1 c2 c3
          obtain ⟨c0, c1, c2, c3⟩ := t.sx
          cases hck : checkB us k m g
          · have hce : ce = 20 := by rw [← HCE.out, chkE, hck]; rfl
            subst hce
            clear hck
            go_wp2_with fail
            refine wp_region_noPanic ?_
            refine region_g 15 (Ext (World.drew _)) (by kernel_rfl) (Ext.refl _) (fun hS => ?_)
            refine take_w (i := 0) (v := ?_) (some 89) rfl (by kernel_rfl) rfl (fun _ _ _ h => h) (Or.inl ⟨by rfl, ?_⟩) hS ?_
            rotate_left
            · (intro wq hq; go_simp); first | done | with_reducible rfl
            try simp only [Act.put, List.setIfInBounds_toArray, List.set_cons_zero, List.set_cons_succ]
            replace hS := Till.list 0 hS
            refine take_w (i := 1) (v := ?_) (some 90) rfl (by kernel_rfl) rfl (fun _ _ _ h => h) (Or.inl ⟨by rfl, ?_⟩) hS ?_
            rotate_left
            · (intro wq hq; go_simp); first | done | with_reducible rfl
            try simp only [Act.put, List.setIfInBounds_toArray, List.set_cons_zero, List.set_cons_succ]
            replace hS := Till.list 1 hS
            refine take_w (i := 2) (v := ?_) (some 91) rfl (by kernel_rfl) rfl (fun _ _ _ h => h) (Or.inl ⟨by rfl, ?_⟩) hS ?_
            rotate_left
            · (intro wq hq; go_simp); first | done | with_reducible rfl
            try simp only [Act.put, List.setIfInBounds_toArray, List.set_cons_zero, List.set_cons_succ]
            replace hS := Till.list 2 hS
            refine take_w (i := 3) (v := ?_) (some 92) rfl (by kernel_rfl) rfl (fun _ _ _ h => h) (Or.inl ⟨by rfl, ?_⟩) hS ?_
            rotate_left
            · (intro wq hq; go_simp); first | done | with_reducible rfl
            try simp only [Act.put, List.setIfInBounds_toArray, List.set_cons_zero, List.set_cons_succ]
            replace hS := Till.list 3 hS
            refine take_w (i := 4) (v := ?_) (some 93) rfl (by kernel_rfl) rfl (fun _ _ _ h => h) (Or.inl ⟨by rfl, ?_⟩) hS ?_
            rotate_left
            · (intro wq hq; go_simp); first | done | with_reducible rfl
            try simp only [Act.put, List.setIfInBounds_toArray, List.set_cons_zero, List.set_cons_succ]
            replace hS := Till.list 4 hS
            refine take_w (i := 5) (v := undef) (some 94) rfl (by kernel_rfl) rfl (fun _ _ _ h => h) (Or.inr ⟨by rfl, rfl⟩) hS ?_
            try simp only [Act.put, List.setIfInBounds_toArray, List.set_cons_zero, List.set_cons_succ]
            replace hS := Till.list 5 hS
            refine take_w (i := 8) (v := undef) (some 97) rfl (by kernel_rfl) rfl (fun _ _ _ h => h) (Or.inr ⟨by rfl, rfl⟩) hS ?_
            try simp only [Act.put, List.setIfInBounds_toArray, List.set_cons_zero, List.set_cons_succ]
            replace hS := Till.list 8 hS
            refine take_w (i := 6) (v := undef) (some 95) rfl (by kernel_rfl) rfl (fun _ _ _ h => h) (Or.inr ⟨by rfl, rfl⟩) hS ?_
            try simp only [Act.put, List.setIfInBounds_toArray, List.set_cons_zero, List.set_cons_succ]
            replace hS := Till.list 6 hS
            refine take_w (i := 7) (v := undef) (some 96) rfl (by kernel_rfl) rfl (fun _ _ _ h => h) (Or.inr ⟨by rfl, rfl⟩) hS ?_
            try simp only [Act.put, List.setIfInBounds_toArray, List.set_cons_zero, List.set_cons_succ]
            replace hS := Till.list 7 hS
            refine take_w (i := 9) (v := undef) (some 98) rfl (by kernel_rfl) rfl (fun _ _ _ h => h) (Or.inr ⟨by rfl, rfl⟩) hS ?_
            try simp only [Act.put, List.setIfInBounds_toArray, List.set_cons_zero, List.set_cons_succ]
            replace hS := Till.list 9 hS
            refine take_w (i := 10) (v := undef) (some 99) rfl (by kernel_rfl) rfl (fun _ _ _ h => h) (Or.inr ⟨by rfl, rfl⟩) hS ?_
            try simp only [Act.put, List.setIfInBounds_toArray, List.set_cons_zero, List.set_cons_succ]
            replace hS := Till.list 10 hS
            refine take_w (i := 11) (v := undef) (some 100) rfl (by kernel_rfl) rfl (fun _ _ _ h => h) (Or.inr ⟨by rfl, rfl⟩) hS ?_
            try simp only [Act.put, List.setIfInBounds_toArray, List.set_cons_zero, List.set_cons_succ]
            replace hS := Till.list 11 hS
            refine take_w (i := 12) (v := ?_) (some 101) rfl (by kernel_rfl) rfl (fun _ _ _ h => h) (Or.inl ⟨by rfl, ?_⟩) hS ?_
            rotate_left
            · (intro wq hq; go_simp); first | done | with_reducible rfl
            try simp only [Act.put, List.setIfInBounds_toArray, List.set_cons_zero, List.set_cons_succ]
            replace hS := Till.list 12 hS
            refine take_w (i := 13) (v := ?_) (some 102) rfl (by kernel_rfl) rfl (fun _ _ _ h => h) (Or.inl ⟨by rfl, ?_⟩) hS ?_
            rotate_left
            · (intro wq hq; go_simp); first | done | with_reducible rfl
            try simp only [Act.put, List.setIfInBounds_toArray, List.set_cons_zero, List.set_cons_succ]
            replace hS := Till.list 13 hS
            refine take_w (i := 14) (v := ?_) (some 6) rfl (by kernel_rfl) rfl (fun _ _ _ h => h) (Or.inl ⟨by rfl, ?_⟩) hS ?_
            rotate_left
            · (intro wq hq; go_simp); first | done | with_reducible rfl
            try simp only [Act.put, List.setIfInBounds_toArray, List.set_cons_zero, List.set_cons_succ]
            replace hS := Till.list 14 hS
            refine done_g (by kernel_rfl) (NoPanic.normal ?_) _
            clear hS
            go_wp2_with fail
            go_ret
            exact ⟨rfl, hb.drew⟩
          · have hce : ce = 0 := by rw [← HCE.out, chkE, hck]; rfl
            subst hce
            have HK := Lib.hid hck
            clear hck
            go_wp2_with fail
            refine wp_region_noPanic ?_
            refine region_g 15 (Ext (World.drew _)) (by kernel_rfl) (Ext.refl _) (fun hS => ?_)
            refine take_w (i := 0) (v := ?_) (some 89) rfl (by kernel_rfl) rfl (fun _ _ _ h => h) (Or.inl ⟨by rfl, ?_⟩) hS ?_
            rotate_left
            · (intro wq hq; go_simp); first | done | with_reducible rfl
            try simp only [Act.put, List.setIfInBounds_toArray, List.set_cons_zero, List.set_cons_succ]
            replace hS := Till.list 0 hS
            refine take_w (i := 1) (v := ?_) (some 90) rfl (by kernel_rfl) rfl (fun _ _ _ h => h) (Or.inl ⟨by rfl, ?_⟩) hS ?_
            rotate_left
            · (intro wq hq; go_simp); first | done | with_reducible rfl
            try simp only [Act.put, List.setIfInBounds_toArray, List.set_cons_zero, List.set_cons_succ]
            replace hS := Till.list 1 hS
            refine take_w (i := 2) (v := ?_) (some 91) rfl (by kernel_rfl) rfl (fun _ _ _ h => h) (Or.inl ⟨by rfl, ?_⟩) hS ?_
            rotate_left
            · (intro wq hq; go_simp); first | done | with_reducible rfl
            try simp only [Act.put, List.setIfInBounds_toArray, List.set_cons_zero, List.set_cons_succ]
            replace hS := Till.list 2 hS
            refine take_w (i := 3) (v := ?_) (some 92) rfl (by kernel_rfl) rfl (fun _ _ _ h => h) (Or.inl ⟨by rfl, ?_⟩) hS ?_
            rotate_left
            · (intro wq hq; go_simp); first | done | with_reducible rfl
            try simp only [Act.put, List.setIfInBounds_toArray, List.set_cons_zero, List.set_cons_succ]
            replace hS := Till.list 3 hS
            refine take_w (i := 4) (v := ?_) (some 93) rfl (by kernel_rfl) rfl (fun _ _ _ h => h) (Or.inl ⟨by rfl, ?_⟩) hS ?_
            rotate_left
            · (intro wq hq; go_simp); first | done | with_reducible rfl
            try simp only [Act.put, List.setIfInBounds_toArray, List.set_cons_zero, List.set_cons_succ]
            replace hS := Till.list 4 hS
            refine take_n (i := 5) (v := ?_) (some 94) rfl (by kernel_rfl) rfl (fun _ _ _ h => h) (Or.inl ⟨by rfl, ?_⟩) hS ?_
            rotate_left
            · (intro wq hq; have q0 := hq _ _ _ c0; have q1 := hq _ _ _ c1; have q2 := hq _ _ _ c2; have q3 := hq _ _ _ c3; go_simp); first | done | with_reducible rfl
            try simp only [Act.put, List.setIfInBounds_toArray, List.set_cons_zero, List.set_cons_succ]
            replace hS := Till.list 5 hS
            refine take_n (i := 8) (v := ?_) (some 97) rfl (by kernel_rfl) rfl (fun _ _ _ h => h) (Or.inl ⟨by rfl, ?_⟩) hS ?_
            rotate_left
            · (intro wq hq; have q0 := hq _ _ _ c0; have q1 := hq _ _ _ c1; have q2 := hq _ _ _ c2; have q3 := hq _ _ _ c3; go_simp); first | done | with_reducible rfl
            try simp only [Act.put, List.setIfInBounds_toArray, List.set_cons_zero, List.set_cons_succ]
            replace hS := Till.list 8 hS
            refine ready_g (rs := [6]) (by kernel_rfl) (by simp) ?_
            refine AllReadyG.cons rfl (fun Kont hK => ?_) AllReadyG.nil
            go_simp
            refine (put_any A M C us k m g _ husr.drew HK.out).mono ?_
            rintro e wj ⟨vj, rfl, oj, hbj⟩
            obtain ⟨aj, cj, rfl, -, -, bj, -⟩ := oj.bvn (put_bytes HK.out) _ rfl
            have huj := husr.drew.below hbj
            refine hK.out _ _ (Or.inr ((hS.get (by kernel_rfl)).trans (Ext.below hbj))) (fun hS0 => ?_)
            clear hK Kont
            try simp only [Act.put, List.setIfInBounds_toArray, List.set_cons_zero, List.set_cons_succ]
            clear hS
            refine now_t (by kernel_rfl) hS0 (fun hS => ?_)
            clear hS0
            refine take_n (i := 7) (v := .string (strOfNums (putS us k m g))) (some 96) rfl (by kernel_rfl) rfl (fun _ _ _ h => h) (Or.inl ⟨by rfl, ?_⟩) hS ?_
            · (intro wq hq; (have hcv := conv_any (bj.ext hq) cj; go_simp))
            try simp only [Act.put, List.setIfInBounds_toArray, List.set_cons_zero, List.set_cons_succ]
            replace hS := Till.list 7 hS
            refine ready_g (rs := [9]) (by kernel_rfl) (by simp) ?_
            refine AllReadyG.cons rfl (fun Kont hK => ?_) AllReadyG.nil
            go_simp
            refine (rput_any A M C us k m g _ huj HK.out).mono ?_
            rintro e wk ⟨vk, rfl, ok, hbk⟩
            obtain ⟨ak, ck, rfl, -, -, bk, -⟩ := ok.bvn (put_bytes HK.out) _ rfl
            refine hK.out _ _ (Or.inr ((hS.get (by kernel_rfl)).trans (Ext.below hbk))) (fun hS0 => ?_)
            clear hK Kont
            try simp only [Act.put, List.setIfInBounds_toArray, List.set_cons_zero, List.set_cons_succ]
            clear hS
            refine now_t (by kernel_rfl) hS0 (fun hS => ?_)
            clear hS0
            refine take_n (i := 10) (v := .string (strOfNums (putS us k m g))) (some 99) rfl (by kernel_rfl) rfl (fun _ _ _ h => h) (Or.inl ⟨by rfl, ?_⟩) hS ?_
            · (intro wq hq; (have hcv := conv_any (bk.ext hq) ck; go_simp))
            try simp only [Act.put, List.setIfInBounds_toArray, List.set_cons_zero, List.set_cons_succ]
            replace hS := Till.list 10 hS
            refine take_w (i := 11) (v := ?_) (some 100) rfl (by kernel_rfl) rfl (fun _ _ _ h => h) (Or.inl ⟨by rfl, ?_⟩) hS ?_
            rotate_left
            · (intro wq hq; go_simp); first | done | with_reducible rfl
            try simp only [Act.put, List.setIfInBounds_toArray, List.set_cons_zero, List.set_cons_succ]
            replace hS := Till.list 11 hS
            refine take_w (i := 12) (v := ?_) (some 101) rfl (by kernel_rfl) rfl (fun _ _ _ h => h) (Or.inl ⟨by rfl, ?_⟩) hS ?_
            rotate_left
            · (intro wq hq; go_simp); first | done | with_reducible rfl
            try simp only [Act.put, List.setIfInBounds_toArray, List.set_cons_zero, List.set_cons_succ]
            replace hS := Till.list 12 hS
            refine take_w (i := 13) (v := ?_) (some 102) rfl (by kernel_rfl) rfl (fun _ _ _ h => h) (Or.inl ⟨by rfl, ?_⟩) hS ?_
            rotate_left
            · (intro wq hq; go_simp); first | done | with_reducible rfl
            try simp only [Act.put, List.setIfInBounds_toArray, List.set_cons_zero, List.set_cons_succ]
            replace hS := Till.list 13 hS
            refine take_w (i := 14) (v := ?_) (some 6) rfl (by kernel_rfl) rfl (fun _ _ _ h => h) (Or.inl ⟨by rfl, ?_⟩) hS ?_
            rotate_left
            · (intro wq hq; go_simp); first | done | with_reducible rfl
            try simp only [Act.put, List.setIfInBounds_toArray, List.set_cons_zero, List.set_cons_succ]
            replace hS := Till.list 14 hS
            refine done_g (by kernel_rfl) (NoPanic.normal ?_) _
            clear hS
            have hbx := Below.then (Below.then hb.drew hbj) hbk
            go_wp2_with fail
            go_ret
            exact ⟨rfl, hbx⟩
    · have hji : ¬ (j : Int) < (n : Int) := by omega
      obtain ⟨aR, cR, rfl, rvs⟩ := orr.rvs
      have hz0 := hz.below hb
      have hjm : j ≤ maxLen := few_max (by omega)
      have husr := hus.below hb
      by_cases h300 : nb ≤ 300
      · have h300i : ¬ (300 : Int) < (nb : Int) := by omega
        go_wp2_with fail
        refine (take_any B nb cb zs _ hz0 (by omega) (by omega)).mono ?_
        rintro e wa hea
        obtain ⟨Aa, Na, Ca, ta, ka, ma, ga, Ea, rfl, iva, hNa, tola, hba⟩ := hea.get
        clear hea
        replace t := t.below hba
        replace rvs := rvs.below hba
        replace hz0 := hz0.below hba
        replace husr := husr.below hba
        replace hb := Below.then hb hba
        clear hba
        replace t := t.alloc (.cells #[.slice Aa Na Ca, .int .i64 ka, .int .i64 ma, .int .i64 ga] 24)
        replace rvs := rvs.alloc (.cells #[.slice Aa Na Ca, .int .i64 ka, .int .i64 ma, .int .i64 ga] 24)
        replace hz0 := hz0.alloc (.cells #[.slice Aa Na Ca, .int .i64 ka, .int .i64 ma, .int .i64 ga] 24)
        replace husr := husr.alloc (.cells #[.slice Aa Na Ca, .int .i64 ka, .int .i64 ma, .int .i64 ga] 24)
        replace iva := iva.alloc (.cells #[.slice Aa Na Ca, .int .i64 ka, .int .i64 ma, .int .i64 ga] 24)
        have xa := Sx.new wa Aa Na Ca ka ma ga 24
        replace hb := hb.alloc hb.size (.cells #[.slice Aa Na Ca, .int .i64 ka, .int .i64 ma, .int .i64 ga] 24)
        go_wp2_with fail
        generalize wa.alloc (.cells #[.slice Aa Na Ca, .int .i64 ka, .int .i64 ma, .int .i64 ga] 24) = wb at *
        generalize wa.heap.size = ba at *
        refine (rtake_any B nb cb zs _ hz0 (by omega) (by omega)).mono ?_
        rintro e wc hec
        obtain ⟨Ac, Nc, Cc, tc, kc, mc, gc, Ec, rfl, ivc, hNc, tolc, hbc⟩ := hec.get
        clear hec
        obtain ⟨rfl, rfl, rfl, rfl, rfl⟩ := Told.one tolc tola
        clear tola tolc hz0
        replace t := t.below hbc
        replace rvs := rvs.below hbc
        replace husr := husr.below hbc
        replace iva := iva.below hbc
        replace xa := xa.below hbc
        replace hb := Below.then hb hbc
        clear hbc
        replace t := t.alloc (.cells #[.slice Ac Nc Cc, .int .i64 kc, .int .i64 mc, .int .i64 gc] 24)
        replace rvs := rvs.alloc (.cells #[.slice Ac Nc Cc, .int .i64 kc, .int .i64 mc, .int .i64 gc] 24)
        replace husr := husr.alloc (.cells #[.slice Ac Nc Cc, .int .i64 kc, .int .i64 mc, .int .i64 gc] 24)
        replace iva := iva.alloc (.cells #[.slice Ac Nc Cc, .int .i64 kc, .int .i64 mc, .int .i64 gc] 24)
        replace ivc := ivc.alloc (.cells #[.slice Ac Nc Cc, .int .i64 kc, .int .i64 mc, .int .i64 gc] 24)
        replace xa := xa.alloc (.cells #[.slice Ac Nc Cc, .int .i64 kc, .int .i64 mc, .int .i64 gc] 24)
        have xc := Sx.new wc Ac Nc Cc kc mc gc 24
        replace hb := hb.alloc hb.size (.cells #[.slice Ac Nc Cc, .int .i64 kc, .int .i64 mc, .int .i64 gc] 24)
        obtain ⟨a0, a1, a2, a3⟩ := id xa
        obtain ⟨d0, d1, d2, d3⟩ := id xc
        go_wp2_with fail
        clear a0 a1 a2 a3 d0 d1 d2 d3 xa xc
        generalize wc.alloc (.cells #[.slice Ac Nc Cc, .int .i64 kc, .int .i64 mc, .int .i64 gc] 24) = wd at *
        refine (same_any Aa Na Ca tc kc mc gc Ac Nc Cc tc kc mc gc _ iva ivc (few_max (by omega)) (few_max (by omega))).mono ?_
        rw [show sameS tc kc mc gc tc kc mc gc = true from decide_eq_true ⟨rfl, rfl, rfl, rfl⟩]
        rintro e we ⟨rfl, hbe⟩
        replace t := t.below hbe
        replace rvs := rvs.below hbe
        replace husr := husr.below hbe
        replace hb := Below.then hb hbe
        clear hbe iva ivc
        obtain ⟨c0, c1, c2, c3⟩ := t.sx
        go_wp2_with fail
        clear c0 c1 c2 c3
        refine (check_any A M C us k m g _ husr hM1).mono ?_
        obtain ⟨ce, hce⟩ : ∃ ce, chkE us k m g = ce := ⟨_, rfl⟩
        rw [hce]
        have HCE := Lib.hid hce
        clear hce
        rintro e wf ⟨rfl, hbf⟩
        replace t := t.below hbf
        replace rvs := rvs.below hbf
        replace husr := husr.below hbf
        replace hb := Below.then hb hbf
        clear hbf
        obtain ⟨c0, c1, c2, c3⟩ := t.sx
        go_wp2_with fail
        refine wp_region_noPanic ?_
        refine region_g 22 (Ext (World.drew _)) (by kernel_rfl) (Ext.refl _) (fun hS => ?_)
        refine take_w (i := 0) (v := ?_) (some 67) rfl (by kernel_rfl) rfl (fun _ _ _ h => h) (Or.inl ⟨by rfl, ?_⟩) hS ?_
        rotate_left
        · (intro wq hq; go_simp); first | done | with_reducible rfl
        try simp only [Act.put, List.setIfInBounds_toArray, List.set_cons_zero, List.set_cons_succ]
        replace hS := Till.list 0 hS
        refine take_n (i := 1) (v := ?_) (some 68) rfl (by kernel_rfl) rfl (fun _ _ _ h => h) (Or.inl ⟨by rfl, ?_⟩) hS ?_
        rotate_left
        · (intro wq hq; have q0 := hq _ _ _ c0; have q1 := hq _ _ _ c1; have q2 := hq _ _ _ c2; have q3 := hq _ _ _ c3; go_simp); first | done | with_reducible rfl
        try simp only [Act.put, List.setIfInBounds_toArray, List.set_cons_zero, List.set_cons_succ]
        replace hS := Till.list 1 hS
        refine ready_g (rs := [2]) (by kernel_rfl) (by simp) ?_
        refine AllReadyG.cons rfl (fun Kont hK => ?_) AllReadyG.nil
        go_simp
        refine (rcheck_any A M C us k m g _ husr.drew hM1).mono ?_
        rw [HCE.out]
        rintro e wg ⟨rfl, hbg⟩
        have hug := husr.drew.below hbg
        have hrg := (RVs.below (w := wf.drew) rvs hbg)
        refine hK.out _ _ (Or.inr ((hS.get (by kernel_rfl)).trans (Ext.below hbg))) (fun hS0 => ?_)
        clear hK Kont
        try simp only [Act.put, List.setIfInBounds_toArray, List.set_cons_zero, List.set_cons_succ]
        clear hS
        have hS := hS0
        clear hS0
        refine take_w (i := 3) (v := ?_) (some 70) rfl (by kernel_rfl) rfl (fun _ _ _ h => h) (Or.inl ⟨by rfl, ?_⟩) hS ?_
        rotate_left
        · (intro wq hq; go_simp); first | done | with_reducible rfl
        try simp only [Act.put, List.setIfInBounds_toArray, List.set_cons_zero, List.set_cons_succ]
        replace hS := Till.list 3 hS
        refine take_w (i := 4) (v := ?_) (some 71) rfl (by kernel_rfl) rfl (fun _ _ _ h => h) (Or.inl ⟨by rfl, ?_⟩) hS ?_
        rotate_left
        · (intro wq hq; go_simp); first | done | with_reducible rfl
        try simp only [Act.put, List.setIfInBounds_toArray, List.set_cons_zero, List.set_cons_succ]
        replace hS := Till.list 4 hS
        refine take_n (i := 5) (v := ?_) (some 72) rfl (by kernel_rfl) rfl (fun _ _ _ h => h) (Or.inl ⟨by rfl, ?_⟩) hS ?_
        rotate_left
        · (intro wq hq; have q0 := hq _ _ _ c0; have q1 := hq _ _ _ c1; have q2 := hq _ _ _ c2; have q3 := hq _ _ _ c3; go_simp); first | done | with_reducible rfl
        try simp only [Act.put, List.setIfInBounds_toArray, List.set_cons_zero, List.set_cons_succ]
        replace hS := Till.list 5 hS
        refine take_w (i := 6) (v := ?_) (some 73) rfl (by kernel_rfl) rfl (fun _ _ _ h => h) (Or.inl ⟨by rfl, ?_⟩) hS ?_
        rotate_left
        · (intro wq hq; go_simp); first | done | with_reducible rfl
        try simp only [Act.put, List.setIfInBounds_toArray, List.set_cons_zero, List.set_cons_succ]
        replace hS := Till.list 6 hS
        refine take_n (i := 8) (v := ?_) (some 75) rfl (by kernel_rfl) rfl (fun _ _ _ h => h) (Or.inl ⟨by rfl, ?_⟩) hS ?_
        rotate_left
        · (intro wq hq; have q0 := hq _ _ _ c0; have q1 := hq _ _ _ c1; have q2 := hq _ _ _ c2; have q3 := hq _ _ _ c3; go_simp); first | done | with_reducible rfl
        try simp only [Act.put, List.setIfInBounds_toArray, List.set_cons_zero, List.set_cons_succ]
        replace hS := Till.list 8 hS
        refine take_w (i := 9) (v := ?_) (some 76) rfl (by kernel_rfl) rfl (fun _ _ _ h => h) (Or.inl ⟨by rfl, ?_⟩) hS ?_
        rotate_left
        · (intro wq hq; go_simp); first | done | with_reducible rfl
        try simp only [Act.put, List.setIfInBounds_toArray, List.set_cons_zero, List.set_cons_succ]
        replace hS := Till.list 9 hS
        refine ready_g (rs := [7]) (by kernel_rfl) (by simp) ?_
        refine AllReadyG.cons rfl (fun Kont hK => ?_) AllReadyG.nil
        go_simp
        refine (batch_any A M C us k m g aR j cR rs _ hug hM1 hrg hjm).mono ?_
        obtain ⟨be, hbe⟩ : ∃ be, batE us rs = be := ⟨_, rfl⟩
        rw [hbe]
        have HBE := Lib.hid hbe
        clear hbe
        rintro e wh ⟨rfl, hbh⟩
        have huh := hug.below hbh
        have hrh := hrg.below hbh
        refine hK.out _ _ (Or.inr ((hS.get (by kernel_rfl)).trans (Ext.below hbh))) (fun hS0 => ?_)
        clear hK Kont
        try simp only [Act.put, List.setIfInBounds_toArray, List.set_cons_zero, List.set_cons_succ]
        clear hS
        have hS := hS0
        clear hS0
        refine ready_g (rs := [10]) (by kernel_rfl) (by simp) ?_
        refine AllReadyG.cons rfl (fun Kont hK => ?_) AllReadyG.nil
        go_simp
        refine (rbatch_any A M C us k m g aR j cR rs _ huh hM1 hrh hjm).mono ?_
        rw [HBE.out]
        rintro e wi ⟨rfl, hbi⟩
        refine hK.out _ _ (Or.inr ((hS.get (by kernel_rfl)).trans (Ext.below hbi))) (fun hS0 => ?_)
        clear hK Kont
        try simp only [Act.put, List.setIfInBounds_toArray, List.set_cons_zero, List.set_cons_succ]
        clear hS
        have hS := hS0
        clear hS0
        refine take_w (i := 11) (v := ?_) (some 78) rfl (by kernel_rfl) rfl (fun _ _ _ h => h) (Or.inl ⟨by rfl, ?_⟩) hS ?_
        rotate_left
        · (intro wq hq; go_simp); first | done | with_reducible rfl
        try simp only [Act.put, List.setIfInBounds_toArray, List.set_cons_zero, List.set_cons_succ]
        replace hS := Till.list 11 hS
        refine take_w (i := 12) (v := ?_) (some 79) rfl (by kernel_rfl) rfl (fun _ _ _ h => h) (Or.inl ⟨by rfl, ?_⟩) hS ?_
        rotate_left
        · (intro wq hq; go_simp); first | done | with_reducible rfl
        try simp only [Act.put, List.setIfInBounds_toArray, List.set_cons_zero, List.set_cons_succ]
        replace hS := Till.list 12 hS
        refine take_w (i := 13) (v := ?_) (some 80) rfl (by kernel_rfl) rfl (fun _ _ _ h => h) (Or.inl ⟨by rfl, ?_⟩) hS ?_
        rotate_left
        · (intro wq hq; go_simp); first | done | with_reducible rfl
        try simp only [Act.put, List.setIfInBounds_toArray, List.set_cons_zero, List.set_cons_succ]
        replace hS := Till.list 13 hS
        refine take_w (i := 14) (v := ?_) (some 81) rfl (by kernel_rfl) rfl (fun _ _ _ h => h) (Or.inl ⟨by rfl, ?_⟩) hS ?_
        rotate_left
        · (intro wq hq; go_simp); first | done | with_reducible rfl
        try simp only [Act.put, List.setIfInBounds_toArray, List.set_cons_zero, List.set_cons_succ]
        replace hS := Till.list 14 hS
        refine take_w (i := 15) (v := ?_) (some 82) rfl (by kernel_rfl) rfl (fun _ _ _ h => h) (Or.inl ⟨by rfl, ?_⟩) hS ?_
        rotate_left
        · (intro wq hq; go_simp); first | done | with_reducible rfl
        try simp only [Act.put, List.setIfInBounds_toArray, List.set_cons_zero, List.set_cons_succ]
        replace hS := Till.list 15 hS
        refine take_w (i := 16) (v := ?_) (some 83) rfl (by kernel_rfl) rfl (fun _ _ _ h => h) (Or.inl ⟨by rfl, ?_⟩) hS ?_
        rotate_left
        · (intro wq hq; go_simp); first | done | with_reducible rfl
        try simp only [Act.put, List.setIfInBounds_toArray, List.set_cons_zero, List.set_cons_succ]
        replace hS := Till.list 16 hS
        refine take_w (i := 17) (v := ?_) (some 84) rfl (by kernel_rfl) rfl (fun _ _ _ h => h) (Or.inl ⟨by rfl, ?_⟩) hS ?_
        rotate_left
        · (intro wq hq; go_simp); first | done | with_reducible rfl
        try simp only [Act.put, List.setIfInBounds_toArray, List.set_cons_zero, List.set_cons_succ]
        replace hS := Till.list 17 hS
        refine take_w (i := 18) (v := ?_) (some 85) rfl (by kernel_rfl) rfl (fun _ _ _ h => h) (Or.inl ⟨by rfl, ?_⟩) hS ?_
        rotate_left
        · (intro wq hq; go_simp); first | done | with_reducible rfl
        try simp only [Act.put, List.setIfInBounds_toArray, List.set_cons_zero, List.set_cons_succ]
        replace hS := Till.list 18 hS
        refine take_w (i := 19) (v := ?_) (some 86) rfl (by kernel_rfl) rfl (fun _ _ _ h => h) (Or.inl ⟨by rfl, ?_⟩) hS ?_
        rotate_left
        · (intro wq hq; go_simp); first | done | with_reducible rfl
        try simp only [Act.put, List.setIfInBounds_toArray, List.set_cons_zero, List.set_cons_succ]
        replace hS := Till.list 19 hS
        refine take_w (i := 20) (v := ?_) (some 87) rfl (by kernel_rfl) rfl (fun _ _ _ h => h) (Or.inl ⟨by rfl, ?_⟩) hS ?_
        rotate_left
        · (intro wq hq; go_simp); first | done | with_reducible rfl
        try simp only [Act.put, List.setIfInBounds_toArray, List.set_cons_zero, List.set_cons_succ]
        replace hS := Till.list 20 hS
        refine take_w (i := 21) (v := ?_) (some 88) rfl (by kernel_rfl) rfl (fun _ _ _ h => h) (Or.inl ⟨by rfl, ?_⟩) hS ?_
        rotate_left
        · (intro wq hq; go_simp); first | done | with_reducible rfl
        try simp only [Act.put, List.setIfInBounds_toArray, List.set_cons_zero, List.set_cons_succ]
        replace hS := Till.list 21 hS
        refine done_g (by kernel_rfl) (NoPanic.normal ?_) _
        clear hS
        have hbx := Below.then (Below.then (Below.then (Below.refl _ wf).drew hbg) hbh) hbi
        replace t := t.below hbx
        replace husr := husr.below hbx
        replace hb := Below.then hb hbx
        clear hbg hbh hbi hbx hug huh hrg hrh rvs c0 c1 c2 c3
        obtain ⟨c0, c1, c2, c3⟩ := t.sx
        cases hck : checkB us k m g
        · have hce : ce = 20 := by rw [← HCE.out, chkE, hck]; rfl
          subst hce
          clear hck
          go_wp2_with fail
          refine wp_region_noPanic ?_
          refine region_g 15 (Ext (World.drew _)) (by kernel_rfl) (Ext.refl _) (fun hS => ?_)
          refine take_w (i := 0) (v := ?_) (some 89) rfl (by kernel_rfl) rfl (fun _ _ _ h => h) (Or.inl ⟨by rfl, ?_⟩) hS ?_
          rotate_left
          · (intro wq hq; go_simp); first | done | with_reducible rfl
          try simp only [Act.put, List.setIfInBounds_toArray, List.set_cons_zero, List.set_cons_succ]
          replace hS := Till.list 0 hS
          refine take_w (i := 1) (v := ?_) (some 90) rfl (by kernel_rfl) rfl (fun _ _ _ h => h) (Or.inl ⟨by rfl, ?_⟩) hS ?_
          rotate_left
          · (intro wq hq; go_simp); first | done | with_reducible rfl
          try simp only [Act.put, List.setIfInBounds_toArray, List.set_cons_zero, List.set_cons_succ]
          replace hS := Till.list 1 hS
          refine take_w (i := 2) (v := ?_) (some 91) rfl (by kernel_rfl) rfl (fun _ _ _ h => h) (Or.inl ⟨by rfl, ?_⟩) hS ?_
          rotate_left
          · (intro wq hq; go_simp); first | done | with_reducible rfl
          try simp only [Act.put, List.setIfInBounds_toArray, List.set_cons_zero, List.set_cons_succ]
          replace hS := Till.list 2 hS
          refine take_w (i := 3) (v := ?_) (some 92) rfl (by kernel_rfl) rfl (fun _ _ _ h => h) (Or.inl ⟨by rfl, ?_⟩) hS ?_
          rotate_left
          · (intro wq hq; go_simp); first | done | with_reducible rfl
          try simp only [Act.put, List.setIfInBounds_toArray, List.set_cons_zero, List.set_cons_succ]
          replace hS := Till.list 3 hS
          refine take_w (i := 4) (v := ?_) (some 93) rfl (by kernel_rfl) rfl (fun _ _ _ h => h) (Or.inl ⟨by rfl, ?_⟩) hS ?_
          rotate_left
          · (intro wq hq; go_simp); first | done | with_reducible rfl
          try simp only [Act.put, List.setIfInBounds_toArray, List.set_cons_zero, List.set_cons_succ]
          replace hS := Till.list 4 hS
          refine take_w (i := 5) (v := undef) (some 94) rfl (by kernel_rfl) rfl (fun _ _ _ h => h) (Or.inr ⟨by rfl, rfl⟩) hS ?_
          try simp only [Act.put, List.setIfInBounds_toArray, List.set_cons_zero, List.set_cons_succ]
          replace hS := Till.list 5 hS
          refine take_w (i := 8) (v := undef) (some 97) rfl (by kernel_rfl) rfl (fun _ _ _ h => h) (Or.inr ⟨by rfl, rfl⟩) hS ?_
          try simp only [Act.put, List.setIfInBounds_toArray, List.set_cons_zero, List.set_cons_succ]
          replace hS := Till.list 8 hS
          refine take_w (i := 6) (v := undef) (some 95) rfl (by kernel_rfl) rfl (fun _ _ _ h => h) (Or.inr ⟨by rfl, rfl⟩) hS ?_
          try simp only [Act.put, List.setIfInBounds_toArray, List.set_cons_zero, List.set_cons_succ]
          replace hS := Till.list 6 hS
          refine take_w (i := 7) (v := undef) (some 96) rfl (by kernel_rfl) rfl (fun _ _ _ h => h) (Or.inr ⟨by rfl, rfl⟩) hS ?_
          try simp only [Act.put, List.setIfInBounds_toArray, List.set_cons_zero, List.set_cons_succ]
          replace hS := Till.list 7 hS
          refine take_w (i := 9) (v := undef) (some 98) rfl (by kernel_rfl) rfl (fun _ _ _ h => h) (Or.inr ⟨by rfl, rfl⟩) hS ?_
          try simp only [Act.put, List.setIfInBounds_toArray, List.set_cons_zero, List.set_cons_succ]
          replace hS := Till.list 9 hS
          refine take_w (i := 10) (v := undef) (some 99) rfl (by kernel_rfl) rfl (fun _ _ _ h => h) (Or.inr ⟨by rfl, rfl⟩) hS ?_
          try simp only [Act.put, List.setIfInBounds_toArray, List.set_cons_zero, List.set_cons_succ]
          replace hS := Till.list 10 hS
          refine take_w (i := 11) (v := undef) (some 100) rfl (by kernel_rfl) rfl (fun _ _ _ h => h) (Or.inr ⟨by rfl, rfl⟩) hS ?_
          try simp only [Act.put, List.setIfInBounds_toArray, List.set_cons_zero, List.set_cons_succ]
          replace hS := Till.list 11 hS
          refine take_w (i := 12) (v := ?_) (some 101) rfl (by kernel_rfl) rfl (fun _ _ _ h => h) (Or.inl ⟨by rfl, ?_⟩) hS ?_
          rotate_left
          · (intro wq hq; go_simp); first | done | with_reducible rfl
          try simp only [Act.put, List.setIfInBounds_toArray, List.set_cons_zero, List.set_cons_succ]
          replace hS := Till.list 12 hS
          refine take_w (i := 13) (v := ?_) (some 102) rfl (by kernel_rfl) rfl (fun _ _ _ h => h) (Or.inl ⟨by rfl, ?_⟩) hS ?_
          rotate_left
          · (intro wq hq; go_simp); first | done | with_reducible rfl
          try simp only [Act.put, List.setIfInBounds_toArray, List.set_cons_zero, List.set_cons_succ]
          replace hS := Till.list 13 hS
          refine take_w (i := 14) (v := ?_) (some 6) rfl (by kernel_rfl) rfl (fun _ _ _ h => h) (Or.inl ⟨by rfl, ?_⟩) hS ?_
          rotate_left
          · (intro wq hq; go_simp); first | done | with_reducible rfl
          try simp only [Act.put, List.setIfInBounds_toArray, List.set_cons_zero, List.set_cons_succ]
          replace hS := Till.list 14 hS
          refine done_g (by kernel_rfl) (NoPanic.normal ?_) _
          clear hS
          go_wp2_with fail
          go_ret
          exact ⟨rfl, hb.drew⟩
        · have hce : ce = 0 := by rw [← HCE.out, chkE, hck]; rfl
          subst hce
          have HK := Lib.hid hck
          clear hck
          go_wp2_with fail
          refine wp_region_noPanic ?_
          refine region_g 15 (Ext (World.drew _)) (by kernel_rfl) (Ext.refl _) (fun hS => ?_)
          refine take_w (i := 0) (v := ?_) (some 89) rfl (by kernel_rfl) rfl (fun _ _ _ h => h) (Or.inl ⟨by rfl, ?_⟩) hS ?_
          rotate_left
          · (intro wq hq; go_simp); first | done | with_reducible rfl
          try simp only [Act.put, List.setIfInBounds_toArray, List.set_cons_zero, List.set_cons_succ]
          replace hS := Till.list 0 hS
          refine take_w (i := 1) (v := ?_) (some 90) rfl (by kernel_rfl) rfl (fun _ _ _ h => h) (Or.inl ⟨by rfl, ?_⟩) hS ?_
          rotate_left
          · (intro wq hq; go_simp); first | done | with_reducible rfl
          try simp only [Act.put, List.setIfInBounds_toArray, List.set_cons_zero, List.set_cons_succ]
          replace hS := Till.list 1 hS
          refine take_w (i := 2) (v := ?_) (some 91) rfl (by kernel_rfl) rfl (fun _ _ _ h => h) (Or.inl ⟨by rfl, ?_⟩) hS ?_
          rotate_left
          · (intro wq hq; go_simp); first | done | with_reducible rfl
          try simp only [Act.put, List.setIfInBounds_toArray, List.set_cons_zero, List.set_cons_succ]
          replace hS := Till.list 2 hS
          refine take_w (i := 3) (v := ?_) (some 92) rfl (by kernel_rfl) rfl (fun _ _ _ h => h) (Or.inl ⟨by rfl, ?_⟩) hS ?_
          rotate_left
          · (intro wq hq; go_simp); first | done | with_reducible rfl
          try simp only [Act.put, List.setIfInBounds_toArray, List.set_cons_zero, List.set_cons_succ]
          replace hS := Till.list 3 hS
          refine take_w (i := 4) (v := ?_) (some 93) rfl (by kernel_rfl) rfl (fun _ _ _ h => h) (Or.inl ⟨by rfl, ?_⟩) hS ?_
          rotate_left
          · (intro wq hq; go_simp); first | done | with_reducible rfl
          try simp only [Act.put, List.setIfInBounds_toArray, List.set_cons_zero, List.set_cons_succ]
          replace hS := Till.list 4 hS
          refine take_n (i := 5) (v := ?_) (some 94) rfl (by kernel_rfl) rfl (fun _ _ _ h => h) (Or.inl ⟨by rfl, ?_⟩) hS ?_
          rotate_left
          · (intro wq hq; have q0 := hq _ _ _ c0; have q1 := hq _ _ _ c1; have q2 := hq _ _ _ c2; have q3 := hq _ _ _ c3; go_simp); first | done | with_reducible rfl
          try simp only [Act.put, List.setIfInBounds_toArray, List.set_cons_zero, List.set_cons_succ]
          replace hS := Till.list 5 hS
          refine take_n (i := 8) (v := ?_) (some 97) rfl (by kernel_rfl) rfl (fun _ _ _ h => h) (Or.inl ⟨by rfl, ?_⟩) hS ?_
          rotate_left
          · (intro wq hq; have q0 := hq _ _ _ c0; have q1 := hq _ _ _ c1; have q2 := hq _ _ _ c2; have q3 := hq _ _ _ c3; go_simp); first | done | with_reducible rfl
          try simp only [Act.put, List.setIfInBounds_toArray, List.set_cons_zero, List.set_cons_succ]
          replace hS := Till.list 8 hS
          refine ready_g (rs := [6]) (by kernel_rfl) (by simp) ?_
          refine AllReadyG.cons rfl (fun Kont hK => ?_) AllReadyG.nil
          go_simp
          refine (put_any A M C us k m g _ husr.drew HK.out).mono ?_
          rintro e wj ⟨vj, rfl, oj, hbj⟩
          obtain ⟨aj, cj, rfl, -, -, bj, -⟩ := oj.bvn (put_bytes HK.out) _ rfl
          have huj := husr.drew.below hbj
          refine hK.out _ _ (Or.inr ((hS.get (by kernel_rfl)).trans (Ext.below hbj))) (fun hS0 => ?_)
          clear hK Kont
          try simp only [Act.put, List.setIfInBounds_toArray, List.set_cons_zero, List.set_cons_succ]
          clear hS
          refine now_t (by kernel_rfl) hS0 (fun hS => ?_)
          clear hS0
          refine take_n (i := 7) (v := .string (strOfNums (putS us k m g))) (some 96) rfl (by kernel_rfl) rfl (fun _ _ _ h => h) (Or.inl ⟨by rfl, ?_⟩) hS ?_
          · (intro wq hq; (have hcv := conv_any (bj.ext hq) cj; go_simp))
          try simp only [Act.put, List.setIfInBounds_toArray, List.set_cons_zero, List.set_cons_succ]
          replace hS := Till.list 7 hS
          refine ready_g (rs := [9]) (by kernel_rfl) (by simp) ?_
          refine AllReadyG.cons rfl (fun Kont hK => ?_) AllReadyG.nil
          go_simp
          refine (rput_any A M C us k m g _ huj HK.out).mono ?_
          rintro e wk ⟨vk, rfl, ok, hbk⟩
          obtain ⟨ak, ck, rfl, -, -, bk, -⟩ := ok.bvn (put_bytes HK.out) _ rfl
          refine hK.out _ _ (Or.inr ((hS.get (by kernel_rfl)).trans (Ext.below hbk))) (fun hS0 => ?_)
          clear hK Kont
          try simp only [Act.put, List.setIfInBounds_toArray, List.set_cons_zero, List.set_cons_succ]
          clear hS
          refine now_t (by kernel_rfl) hS0 (fun hS => ?_)
          clear hS0
          refine take_n (i := 10) (v := .string (strOfNums (putS us k m g))) (some 99) rfl (by kernel_rfl) rfl (fun _ _ _ h => h) (Or.inl ⟨by rfl, ?_⟩) hS ?_
          · (intro wq hq; (have hcv := conv_any (bk.ext hq) ck; go_simp))
          try simp only [Act.put, List.setIfInBounds_toArray, List.set_cons_zero, List.set_cons_succ]
          replace hS := Till.list 10 hS
          refine take_w (i := 11) (v := ?_) (some 100) rfl (by kernel_rfl) rfl (fun _ _ _ h => h) (Or.inl ⟨by rfl, ?_⟩) hS ?_
          rotate_left
          · (intro wq hq; go_simp); first | done | with_reducible rfl
          try simp only [Act.put, List.setIfInBounds_toArray, List.set_cons_zero, List.set_cons_succ]
          replace hS := Till.list 11 hS
          refine take_w (i := 12) (v := ?_) (some 101) rfl (by kernel_rfl) rfl (fun _ _ _ h => h) (Or.inl ⟨by rfl, ?_⟩) hS ?_
          rotate_left
          · (intro wq hq; go_simp); first | done | with_reducible rfl
          try simp only [Act.put, List.setIfInBounds_toArray, List.set_cons_zero, List.set_cons_succ]
          replace hS := Till.list 12 hS
          refine take_w (i := 13) (v := ?_) (some 102) rfl (by kernel_rfl) rfl (fun _ _ _ h => h) (Or.inl ⟨by rfl, ?_⟩) hS ?_
          rotate_left
          · (intro wq hq; go_simp); first | done | with_reducible rfl
          try simp only [Act.put, List.setIfInBounds_toArray, List.set_cons_zero, List.set_cons_succ]
          replace hS := Till.list 13 hS
          refine take_w (i := 14) (v := ?_) (some 6) rfl (by kernel_rfl) rfl (fun _ _ _ h => h) (Or.inl ⟨by rfl, ?_⟩) hS ?_
          rotate_left
          · (intro wq hq; go_simp); first | done | with_reducible rfl
          try simp only [Act.put, List.setIfInBounds_toArray, List.set_cons_zero, List.set_cons_succ]
          replace hS := Till.list 14 hS
          refine done_g (by kernel_rfl) (NoPanic.normal ?_) _
          clear hS
          have hbx := Below.then (Below.then hb.drew hbj) hbk
          go_wp2_with fail
          go_ret
          exact ⟨rfl, hbx⟩
      · have h300i : (300 : Int) < (nb : Int) := by omega
        have h300c : 300 ≤ cb := by omega
        replace hz0 := hz0.take 300 (by omega)
        go_wp2_with fail
        refine (take_any B 300 cb (zs.take 300) _ hz0 (by omega) (by omega)).mono ?_
        rintro e wa hea
        obtain ⟨Aa, Na, Ca, ta, ka, ma, ga, Ea, rfl, iva, hNa, tola, hba⟩ := hea.get
        clear hea
        replace t := t.below hba
        replace rvs := rvs.below hba
        replace hz0 := hz0.below hba
        replace husr := husr.below hba
        replace hb := Below.then hb hba
        clear hba
        replace t := t.alloc (.cells #[.slice Aa Na Ca, .int .i64 ka, .int .i64 ma, .int .i64 ga] 24)
        replace rvs := rvs.alloc (.cells #[.slice Aa Na Ca, .int .i64 ka, .int .i64 ma, .int .i64 ga] 24)
        replace hz0 := hz0.alloc (.cells #[.slice Aa Na Ca, .int .i64 ka, .int .i64 ma, .int .i64 ga] 24)
        replace husr := husr.alloc (.cells #[.slice Aa Na Ca, .int .i64 ka, .int .i64 ma, .int .i64 ga] 24)
        replace iva := iva.alloc (.cells #[.slice Aa Na Ca, .int .i64 ka, .int .i64 ma, .int .i64 ga] 24)
        have xa := Sx.new wa Aa Na Ca ka ma ga 24
        replace hb := hb.alloc hb.size (.cells #[.slice Aa Na Ca, .int .i64 ka, .int .i64 ma, .int .i64 ga] 24)
        go_wp2_with fail
        generalize wa.alloc (.cells #[.slice Aa Na Ca, .int .i64 ka, .int .i64 ma, .int .i64 ga] 24) = wb at *
        generalize wa.heap.size = ba at *
        refine (rtake_any B 300 cb (zs.take 300) _ hz0 (by omega) (by omega)).mono ?_
        rintro e wc hec
        obtain ⟨Ac, Nc, Cc, tc, kc, mc, gc, Ec, rfl, ivc, hNc, tolc, hbc⟩ := hec.get
        clear hec
        obtain ⟨rfl, rfl, rfl, rfl, rfl⟩ := Told.one tolc tola
        clear tola tolc hz0
        replace t := t.below hbc
        replace rvs := rvs.below hbc
        replace husr := husr.below hbc
        replace iva := iva.below hbc
        replace xa := xa.below hbc
        replace hb := Below.then hb hbc
        clear hbc
        replace t := t.alloc (.cells #[.slice Ac Nc Cc, .int .i64 kc, .int .i64 mc, .int .i64 gc] 24)
        replace rvs := rvs.alloc (.cells #[.slice Ac Nc Cc, .int .i64 kc, .int .i64 mc, .int .i64 gc] 24)
        replace husr := husr.alloc (.cells #[.slice Ac Nc Cc, .int .i64 kc, .int .i64 mc, .int .i64 gc] 24)
        replace iva := iva.alloc (.cells #[.slice Ac Nc Cc, .int .i64 kc, .int .i64 mc, .int .i64 gc] 24)
        replace ivc := ivc.alloc (.cells #[.slice Ac Nc Cc, .int .i64 kc, .int .i64 mc, .int .i64 gc] 24)
        replace xa := xa.alloc (.cells #[.slice Ac Nc Cc, .int .i64 kc, .int .i64 mc, .int .i64 gc] 24)
        have xc := Sx.new wc Ac Nc Cc kc mc gc 24
        replace hb := hb.alloc hb.size (.cells #[.slice Ac Nc Cc, .int .i64 kc, .int .i64 mc, .int .i64 gc] 24)
        obtain ⟨a0, a1, a2, a3⟩ := id xa
        obtain ⟨d0, d1, d2, d3⟩ := id xc
        go_wp2_with fail
        clear a0 a1 a2 a3 d0 d1 d2 d3 xa xc
        generalize wc.alloc (.cells #[.slice Ac Nc Cc, .int .i64 kc, .int .i64 mc, .int .i64 gc] 24) = wd at *
        refine (same_any Aa Na Ca tc kc mc gc Ac Nc Cc tc kc mc gc _ iva ivc (few_max (by omega)) (few_max (by omega))).mono ?_
        rw [show sameS tc kc mc gc tc kc mc gc = true from decide_eq_true ⟨rfl, rfl, rfl, rfl⟩]
        rintro e we ⟨rfl, hbe⟩
        replace t := t.below hbe
        replace rvs := rvs.below hbe
        replace husr := husr.below hbe
        replace hb := Below.then hb hbe
        clear hbe iva ivc
        obtain ⟨c0, c1, c2, c3⟩ := t.sx
        go_wp2_with fail
        clear c0 c1 c2 c3
        refine (check_any A M C us k m g _ husr hM1).mono ?_
        obtain ⟨ce, hce⟩ : ∃ ce, chkE us k m g = ce := ⟨_, rfl⟩
        rw [hce]
        have HCE := Lib.hid hce
        clear hce
        rintro e wf ⟨rfl, hbf⟩
        replace t := t.below hbf
        replace rvs := rvs.below hbf
        replace husr := husr.below hbf
        replace hb := Below.then hb hbf
        clear hbf
        obtain ⟨c0, c1, c2, c3⟩ := t.sx
        go_wp2_with fail
        refine wp_region_noPanic ?_
        refine region_g 22 (Ext (World.drew _)) (by kernel_rfl) (Ext.refl _) (fun hS => ?_)
        refine take_w (i := 0) (v := ?_) (some 67) rfl (by kernel_rfl) rfl (fun _ _ _ h => h) (Or.inl ⟨by rfl, ?_⟩) hS ?_
        rotate_left
        · (intro wq hq; go_simp); first | done | with_reducible rfl
        try simp only [Act.put, List.setIfInBounds_toArray, List.set_cons_zero, List.set_cons_succ]
        replace hS := Till.list 0 hS
        refine take_n (i := 1) (v := ?_) (some 68) rfl (by kernel_rfl) rfl (fun _ _ _ h => h) (Or.inl ⟨by rfl, ?_⟩) hS ?_
        rotate_left
        · (intro wq hq; have q0 := hq _ _ _ c0; have q1 := hq _ _ _ c1; have q2 := hq _ _ _ c2; have q3 := hq _ _ _ c3; go_simp); first | done | with_reducible rfl
        try simp only [Act.put, List.setIfInBounds_toArray, List.set_cons_zero, List.set_cons_succ]
        replace hS := Till.list 1 hS
        refine ready_g (rs := [2]) (by kernel_rfl) (by simp) ?_
        refine AllReadyG.cons rfl (fun Kont hK => ?_) AllReadyG.nil
        go_simp
        refine (rcheck_any A M C us k m g _ husr.drew hM1).mono ?_
        rw [HCE.out]
        rintro e wg ⟨rfl, hbg⟩
        have hug := husr.drew.below hbg
        have hrg := (RVs.below (w := wf.drew) rvs hbg)
        refine hK.out _ _ (Or.inr ((hS.get (by kernel_rfl)).trans (Ext.below hbg))) (fun hS0 => ?_)
        clear hK Kont
        try simp only [Act.put, List.setIfInBounds_toArray, List.set_cons_zero, List.set_cons_succ]
        clear hS
        have hS := hS0
        clear hS0
        refine take_w (i := 3) (v := ?_) (some 70) rfl (by kernel_rfl) rfl (fun _ _ _ h => h) (Or.inl ⟨by rfl, ?_⟩) hS ?_
        rotate_left
        · (intro wq hq; go_simp); first | done | with_reducible rfl
        try simp only [Act.put, List.setIfInBounds_toArray, List.set_cons_zero, List.set_cons_succ]
        replace hS := Till.list 3 hS
        refine take_w (i := 4) (v := ?_) (some 71) rfl (by kernel_rfl) rfl (fun _ _ _ h => h) (Or.inl ⟨by rfl, ?_⟩) hS ?_
        rotate_left
        · (intro wq hq; go_simp); first | done | with_reducible rfl
        try simp only [Act.put, List.setIfInBounds_toArray, List.set_cons_zero, List.set_cons_succ]
        replace hS := Till.list 4 hS
        refine take_n (i := 5) (v := ?_) (some 72) rfl (by kernel_rfl) rfl (fun _ _ _ h => h) (Or.inl ⟨by rfl, ?_⟩) hS ?_
        rotate_left
        · (intro wq hq; have q0 := hq _ _ _ c0; have q1 := hq _ _ _ c1; have q2 := hq _ _ _ c2; have q3 := hq _ _ _ c3; go_simp); first | done | with_reducible rfl
        try simp only [Act.put, List.setIfInBounds_toArray, List.set_cons_zero, List.set_cons_succ]
        replace hS := Till.list 5 hS
        refine take_w (i := 6) (v := ?_) (some 73) rfl (by kernel_rfl) rfl (fun _ _ _ h => h) (Or.inl ⟨by rfl, ?_⟩) hS ?_
        rotate_left
        · (intro wq hq; go_simp); first | done | with_reducible rfl
        try simp only [Act.put, List.setIfInBounds_toArray, List.set_cons_zero, List.set_cons_succ]
        replace hS := Till.list 6 hS
        refine take_n (i := 8) (v := ?_) (some 75) rfl (by kernel_rfl) rfl (fun _ _ _ h => h) (Or.inl ⟨by rfl, ?_⟩) hS ?_
        rotate_left
        · (intro wq hq; have q0 := hq _ _ _ c0; have q1 := hq _ _ _ c1; have q2 := hq _ _ _ c2; have q3 := hq _ _ _ c3; go_simp); first | done | with_reducible rfl
        try simp only [Act.put, List.setIfInBounds_toArray, List.set_cons_zero, List.set_cons_succ]
        replace hS := Till.list 8 hS
        refine take_w (i := 9) (v := ?_) (some 76) rfl (by kernel_rfl) rfl (fun _ _ _ h => h) (Or.inl ⟨by rfl, ?_⟩) hS ?_
        rotate_left
        · (intro wq hq; go_simp); first | done | with_reducible rfl
        try simp only [Act.put, List.setIfInBounds_toArray, List.set_cons_zero, List.set_cons_succ]
        replace hS := Till.list 9 hS
        refine ready_g (rs := [7]) (by kernel_rfl) (by simp) ?_
        refine AllReadyG.cons rfl (fun Kont hK => ?_) AllReadyG.nil
        go_simp
        refine (batch_any A M C us k m g aR j cR rs _ hug hM1 hrg hjm).mono ?_
        obtain ⟨be, hbe⟩ : ∃ be, batE us rs = be := ⟨_, rfl⟩
        rw [hbe]
        have HBE := Lib.hid hbe
        clear hbe
        rintro e wh ⟨rfl, hbh⟩
        have huh := hug.below hbh
        have hrh := hrg.below hbh
        refine hK.out _ _ (Or.inr ((hS.get (by kernel_rfl)).trans (Ext.below hbh))) (fun hS0 => ?_)
        clear hK Kont
        try simp only [Act.put, List.setIfInBounds_toArray, List.set_cons_zero, List.set_cons_succ]
        clear hS
        have hS := hS0
        clear hS0
        refine ready_g (rs := [10]) (by kernel_rfl) (by simp) ?_
        refine AllReadyG.cons rfl (fun Kont hK => ?_) AllReadyG.nil
        go_simp
        refine (rbatch_any A M C us k m g aR j cR rs _ huh hM1 hrh hjm).mono ?_
        rw [HBE.out]
        rintro e wi ⟨rfl, hbi⟩
        refine hK.out _ _ (Or.inr ((hS.get (by kernel_rfl)).trans (Ext.below hbi))) (fun hS0 => ?_)
        clear hK Kont
        try simp only [Act.put, List.setIfInBounds_toArray, List.set_cons_zero, List.set_cons_succ]
        clear hS
        have hS := hS0
        clear hS0
        refine take_w (i := 11) (v := ?_) (some 78) rfl (by kernel_rfl) rfl (fun _ _ _ h => h) (Or.inl ⟨by rfl, ?_⟩) hS ?_
        rotate_left
        · (intro wq hq; go_simp); first | done | with_reducible rfl
        try simp only [Act.put, List.setIfInBounds_toArray, List.set_cons_zero, List.set_cons_succ]
        replace hS := Till.list 11 hS
        refine take_w (i := 12) (v := ?_) (some 79) rfl (by kernel_rfl) rfl (fun _ _ _ h => h) (Or.inl ⟨by rfl, ?_⟩) hS ?_
        rotate_left
        · (intro wq hq; go_simp); first | done | with_reducible rfl
        try simp only [Act.put, List.setIfInBounds_toArray, List.set_cons_zero, List.set_cons_succ]
        replace hS := Till.list 12 hS
        refine take_w (i := 13) (v := ?_) (some 80) rfl (by kernel_rfl) rfl (fun _ _ _ h => h) (Or.inl ⟨by rfl, ?_⟩) hS ?_
        rotate_left
        · (intro wq hq; go_simp); first | done | with_reducible rfl
        try simp only [Act.put, List.setIfInBounds_toArray, List.set_cons_zero, List.set_cons_succ]
        replace hS := Till.list 13 hS
        refine take_w (i := 14) (v := ?_) (some 81) rfl (by kernel_rfl) rfl (fun _ _ _ h => h) (Or.inl ⟨by rfl, ?_⟩) hS ?_
        rotate_left
        · (intro wq hq; go_simp); first | done | with_reducible rfl
        try simp only [Act.put, List.setIfInBounds_toArray, List.set_cons_zero, List.set_cons_succ]
        replace hS := Till.list 14 hS
        refine take_w (i := 15) (v := ?_) (some 82) rfl (by kernel_rfl) rfl (fun _ _ _ h => h) (Or.inl ⟨by rfl, ?_⟩) hS ?_
        rotate_left
        · (intro wq hq; go_simp); first | done | with_reducible rfl
        try simp only [Act.put, List.setIfInBounds_toArray, List.set_cons_zero, List.set_cons_succ]
        replace hS := Till.list 15 hS
        refine take_w (i := 16) (v := ?_) (some 83) rfl (by kernel_rfl) rfl (fun _ _ _ h => h) (Or.inl ⟨by rfl, ?_⟩) hS ?_
        rotate_left
        · (intro wq hq; go_simp); first | done | with_reducible rfl
        try simp only [Act.put, List.setIfInBounds_toArray, List.set_cons_zero, List.set_cons_succ]
        replace hS := Till.list 16 hS
        refine take_w (i := 17) (v := ?_) (some 84) rfl (by kernel_rfl) rfl (fun _ _ _ h => h) (Or.inl ⟨by rfl, ?_⟩) hS ?_
        rotate_left
        · (intro wq hq; go_simp); first | done | with_reducible rfl
        try simp only [Act.put, List.setIfInBounds_toArray, List.set_cons_zero, List.set_cons_succ]
        replace hS := Till.list 17 hS
        refine take_w (i := 18) (v := ?_) (some 85) rfl (by kernel_rfl) rfl (fun _ _ _ h => h) (Or.inl ⟨by rfl, ?_⟩) hS ?_
        rotate_left
        · (intro wq hq; go_simp); first | done | with_reducible rfl
        try simp only [Act.put, List.setIfInBounds_toArray, List.set_cons_zero, List.set_cons_succ]
        replace hS := Till.list 18 hS
        refine take_w (i := 19) (v := ?_) (some 86) rfl (by kernel_rfl) rfl (fun _ _ _ h => h) (Or.inl ⟨by rfl, ?_⟩) hS ?_
        rotate_left
        · (intro wq hq; go_simp); first | done | with_reducible rfl
        try simp only [Act.put, List.setIfInBounds_toArray, List.set_cons_zero, List.set_cons_succ]
        replace hS := Till.list 19 hS
        refine take_w (i := 20) (v := ?_) (some 87) rfl (by kernel_rfl) rfl (fun _ _ _ h => h) (Or.inl ⟨by rfl, ?_⟩) hS ?_
        rotate_left
        · (intro wq hq; go_simp); first | done | with_reducible rfl
        try simp only [Act.put, List.setIfInBounds_toArray, List.set_cons_zero, List.set_cons_succ]
        replace hS := Till.list 20 hS
        refine take_w (i := 21) (v := ?_) (some 88) rfl (by kernel_rfl) rfl (fun _ _ _ h => h) (Or.inl ⟨by rfl, ?_⟩) hS ?_
        rotate_left
        · (intro wq hq; go_simp); first | done | with_reducible rfl
        try simp only [Act.put, List.setIfInBounds_toArray, List.set_cons_zero, List.set_cons_succ]
        replace hS := Till.list 21 hS
        refine done_g (by kernel_rfl) (NoPanic.normal ?_) _
        clear hS
        have hbx := Below.then (Below.then (Below.then (Below.refl _ wf).drew hbg) hbh) hbi
        replace t := t.below hbx
        replace husr := husr.below hbx
        replace hb := Below.then hb hbx
        clear hbg hbh hbi hbx hug huh hrg hrh rvs c0 c1 c2 c3
        obtain ⟨c0, c1, c2, c3⟩ := t.sx
        cases hck : checkB us k m g
        · have hce : ce = 20 := by rw [← HCE.out, chkE, hck]; rfl
          subst hce
          clear hck
          go_wp2_with fail
          refine wp_region_noPanic ?_
          refine region_g 15 (Ext (World.drew _)) (by kernel_rfl) (Ext.refl _) (fun hS => ?_)
          refine take_w (i := 0) (v := ?_) (some 89) rfl (by kernel_rfl) rfl (fun _ _ _ h => h) (Or.inl ⟨by rfl, ?_⟩) hS ?_
          rotate_left
          · (intro wq hq; go_simp); first | done | with_reducible rfl
          try simp only [Act.put, List.setIfInBounds_toArray, List.set_cons_zero, List.set_cons_succ]
          replace hS := Till.list 0 hS
          refine take_w (i := 1) (v := ?_) (some 90) rfl (by kernel_rfl) rfl (fun _ _ _ h => h) (Or.inl ⟨by rfl, ?_⟩) hS ?_
          rotate_left
          · (intro wq hq; go_simp); first | done | with_reducible rfl
          try simp only [Act.put, List.setIfInBounds_toArray, List.set_cons_zero, List.set_cons_succ]
          replace hS := Till.list 1 hS
          refine take_w (i := 2) (v := ?_) (some 91) rfl (by kernel_rfl) rfl (fun _ _ _ h => h) (Or.inl ⟨by rfl, ?_⟩) hS ?_
          rotate_left
          · (intro wq hq; go_simp); first | done | with_reducible rfl
          try simp only [Act.put, List.setIfInBounds_toArray, List.set_cons_zero, List.set_cons_succ]
          replace hS := Till.list 2 hS
          refine take_w (i := 3) (v := ?_) (some 92) rfl (by kernel_rfl) rfl (fun _ _ _ h => h) (Or.inl ⟨by rfl, ?_⟩) hS ?_
          rotate_left
          · (intro wq hq; go_simp); first | done | with_reducible rfl
          try simp only [Act.put, List.setIfInBounds_toArray, List.set_cons_zero, List.set_cons_succ]
          replace hS := Till.list 3 hS
          refine take_w (i := 4) (v := ?_) (some 93) rfl (by kernel_rfl) rfl (fun _ _ _ h => h) (Or.inl ⟨by rfl, ?_⟩) hS ?_
          rotate_left
          · (intro wq hq; go_simp); first | done | with_reducible rfl
          try simp only [Act.put, List.setIfInBounds_toArray, List.set_cons_zero, List.set_cons_succ]
          replace hS := Till.list 4 hS
          refine take_w (i := 5) (v := undef) (some 94) rfl (by kernel_rfl) rfl (fun _ _ _ h => h) (Or.inr ⟨by rfl, rfl⟩) hS ?_
          try simp only [Act.put, List.setIfInBounds_toArray, List.set_cons_zero, List.set_cons_succ]
          replace hS := Till.list 5 hS
          refine take_w (i := 8) (v := undef) (some 97) rfl (by kernel_rfl) rfl (fun _ _ _ h => h) (Or.inr ⟨by rfl, rfl⟩) hS ?_
          try simp only [Act.put, List.setIfInBounds_toArray, List.set_cons_zero, List.set_cons_succ]
          replace hS := Till.list 8 hS
          refine take_w (i := 6) (v := undef) (some 95) rfl (by kernel_rfl) rfl (fun _ _ _ h => h) (Or.inr ⟨by rfl, rfl⟩) hS ?_
          try simp only [Act.put, List.setIfInBounds_toArray, List.set_cons_zero, List.set_cons_succ]
          replace hS := Till.list 6 hS
          refine take_w (i := 7) (v := undef) (some 96) rfl (by kernel_rfl) rfl (fun _ _ _ h => h) (Or.inr ⟨by rfl, rfl⟩) hS ?_
          try simp only [Act.put, List.setIfInBounds_toArray, List.set_cons_zero, List.set_cons_succ]
          replace hS := Till.list 7 hS
          refine take_w (i := 9) (v := undef) (some 98) rfl (by kernel_rfl) rfl (fun _ _ _ h => h) (Or.inr ⟨by rfl, rfl⟩) hS ?_
          try simp only [Act.put, List.setIfInBounds_toArray, List.set_cons_zero, List.set_cons_succ]
          replace hS := Till.list 9 hS
          refine take_w (i := 10) (v := undef) (some 99) rfl (by kernel_rfl) rfl (fun _ _ _ h => h) (Or.inr ⟨by rfl, rfl⟩) hS ?_
          try simp only [Act.put, List.setIfInBounds_toArray, List.set_cons_zero, List.set_cons_succ]
          replace hS := Till.list 10 hS
          refine take_w (i := 11) (v := undef) (some 100) rfl (by kernel_rfl) rfl (fun _ _ _ h => h) (Or.inr ⟨by rfl, rfl⟩) hS ?_
          try simp only [Act.put, List.setIfInBounds_toArray, List.set_cons_zero, List.set_cons_succ]
          replace hS := Till.list 11 hS
          refine take_w (i := 12) (v := ?_) (some 101) rfl (by kernel_rfl) rfl (fun _ _ _ h => h) (Or.inl ⟨by rfl, ?_⟩) hS ?_
          rotate_left
          · (intro wq hq; go_simp); first | done | with_reducible rfl
          try simp only [Act.put, List.setIfInBounds_toArray, List.set_cons_zero, List.set_cons_succ]
          replace hS := Till.list 12 hS
          refine take_w (i := 13) (v := ?_) (some 102) rfl (by kernel_rfl) rfl (fun _ _ _ h => h) (Or.inl ⟨by rfl, ?_⟩) hS ?_
          rotate_left
          · (intro wq hq; go_simp); first | done | with_reducible rfl
          try simp only [Act.put, List.setIfInBounds_toArray, List.set_cons_zero, List.set_cons_succ]
          replace hS := Till.list 13 hS
          refine take_w (i := 14) (v := ?_) (some 6) rfl (by kernel_rfl) rfl (fun _ _ _ h => h) (Or.inl ⟨by rfl, ?_⟩) hS ?_
          rotate_left
          · (intro wq hq; go_simp); first | done | with_reducible rfl
          try simp only [Act.put, List.setIfInBounds_toArray, List.set_cons_zero, List.set_cons_succ]
          replace hS := Till.list 14 hS
          refine done_g (by kernel_rfl) (NoPanic.normal ?_) _
          clear hS
          go_wp2_with fail
          go_ret
          exact ⟨rfl, hb.drew⟩
        · have hce : ce = 0 := by rw [← HCE.out, chkE, hck]; rfl
          subst hce
          have HK := Lib.hid hck
          clear hck
          go_wp2_with fail
          refine wp_region_noPanic ?_
          refine region_g 15 (Ext (World.drew _)) (by kernel_rfl) (Ext.refl _) (fun hS => ?_)
          refine take_w (i := 0) (v := ?_) (some 89) rfl (by kernel_rfl) rfl (fun _ _ _ h => h) (Or.inl ⟨by rfl, ?_⟩) hS ?_
          rotate_left
          · (intro wq hq; go_simp); first | done | with_reducible rfl
          try simp only [Act.put, List.setIfInBounds_toArray, List.set_cons_zero, List.set_cons_succ]
          replace hS := Till.list 0 hS
          refine take_w (i := 1) (v := ?_) (some 90) rfl (by kernel_rfl) rfl (fun _ _ _ h => h) (Or.inl ⟨by rfl, ?_⟩) hS ?_
          rotate_left
          · (intro wq hq; go_simp); first | done | with_reducible rfl
          try simp only [Act.put, List.setIfInBounds_toArray, List.set_cons_zero, List.set_cons_succ]
          replace hS := Till.list 1 hS
          refine take_w (i := 2) (v := ?_) (some 91) rfl (by kernel_rfl) rfl (fun _ _ _ h => h) (Or.inl ⟨by rfl, ?_⟩) hS ?_
          rotate_left
          · (intro wq hq; go_simp); first | done | with_reducible rfl
          try simp only [Act.put, List.setIfInBounds_toArray, List.set_cons_zero, List.set_cons_succ]
          replace hS := Till.list 2 hS
          refine take_w (i := 3) (v := ?_) (some 92) rfl (by kernel_rfl) rfl (fun _ _ _ h => h) (Or.inl ⟨by rfl, ?_⟩) hS ?_
          rotate_left
          · (intro wq hq; go_simp); first | done | with_reducible rfl
          try simp only [Act.put, List.setIfInBounds_toArray, List.set_cons_zero, List.set_cons_succ]
          replace hS := Till.list 3 hS
          refine take_w (i := 4) (v := ?_) (some 93) rfl (by kernel_rfl) rfl (fun _ _ _ h => h) (Or.inl ⟨by rfl, ?_⟩) hS ?_
          rotate_left
          · (intro wq hq; go_simp); first | done | with_reducible rfl
          try simp only [Act.put, List.setIfInBounds_toArray, List.set_cons_zero, List.set_cons_succ]
          replace hS := Till.list 4 hS
          refine take_n (i := 5) (v := ?_) (some 94) rfl (by kernel_rfl) rfl (fun _ _ _ h => h) (Or.inl ⟨by rfl, ?_⟩) hS ?_
          rotate_left
          · (intro wq hq; have q0 := hq _ _ _ c0; have q1 := hq _ _ _ c1; have q2 := hq _ _ _ c2; have q3 := hq _ _ _ c3; go_simp); first | done | with_reducible rfl
          try simp only [Act.put, List.setIfInBounds_toArray, List.set_cons_zero, List.set_cons_succ]
          replace hS := Till.list 5 hS
          refine take_n (i := 8) (v := ?_) (some 97) rfl (by kernel_rfl) rfl (fun _ _ _ h => h) (Or.inl ⟨by rfl, ?_⟩) hS ?_
          rotate_left
          · (intro wq hq; have q0 := hq _ _ _ c0; have q1 := hq _ _ _ c1; have q2 := hq _ _ _ c2; have q3 := hq _ _ _ c3; go_simp); first | done | with_reducible rfl
          try simp only [Act.put, List.setIfInBounds_toArray, List.set_cons_zero, List.set_cons_succ]
          replace hS := Till.list 8 hS
          refine ready_g (rs := [6]) (by kernel_rfl) (by simp) ?_
          refine AllReadyG.cons rfl (fun Kont hK => ?_) AllReadyG.nil
          go_simp
          refine (put_any A M C us k m g _ husr.drew HK.out).mono ?_
          rintro e wj ⟨vj, rfl, oj, hbj⟩
          obtain ⟨aj, cj, rfl, -, -, bj, -⟩ := oj.bvn (put_bytes HK.out) _ rfl
          have huj := husr.drew.below hbj
          refine hK.out _ _ (Or.inr ((hS.get (by kernel_rfl)).trans (Ext.below hbj))) (fun hS0 => ?_)
          clear hK Kont
          try simp only [Act.put, List.setIfInBounds_toArray, List.set_cons_zero, List.set_cons_succ]
          clear hS
          refine now_t (by kernel_rfl) hS0 (fun hS => ?_)
          clear hS0
          refine take_n (i := 7) (v := .string (strOfNums (putS us k m g))) (some 96) rfl (by kernel_rfl) rfl (fun _ _ _ h => h) (Or.inl ⟨by rfl, ?_⟩) hS ?_
          · (intro wq hq; (have hcv := conv_any (bj.ext hq) cj; go_simp))
          try simp only [Act.put, List.setIfInBounds_toArray, List.set_cons_zero, List.set_cons_succ]
          replace hS := Till.list 7 hS
          refine ready_g (rs := [9]) (by kernel_rfl) (by simp) ?_
          refine AllReadyG.cons rfl (fun Kont hK => ?_) AllReadyG.nil
          go_simp
          refine (rput_any A M C us k m g _ huj HK.out).mono ?_
          rintro e wk ⟨vk, rfl, ok, hbk⟩
          obtain ⟨ak, ck, rfl, -, -, bk, -⟩ := ok.bvn (put_bytes HK.out) _ rfl
          refine hK.out _ _ (Or.inr ((hS.get (by kernel_rfl)).trans (Ext.below hbk))) (fun hS0 => ?_)
          clear hK Kont
          try simp only [Act.put, List.setIfInBounds_toArray, List.set_cons_zero, List.set_cons_succ]
          clear hS
          refine now_t (by kernel_rfl) hS0 (fun hS => ?_)
          clear hS0
          refine take_n (i := 10) (v := .string (strOfNums (putS us k m g))) (some 99) rfl (by kernel_rfl) rfl (fun _ _ _ h => h) (Or.inl ⟨by rfl, ?_⟩) hS ?_
          · (intro wq hq; (have hcv := conv_any (bk.ext hq) ck; go_simp))
          try simp only [Act.put, List.setIfInBounds_toArray, List.set_cons_zero, List.set_cons_succ]
          replace hS := Till.list 10 hS
          refine take_w (i := 11) (v := ?_) (some 100) rfl (by kernel_rfl) rfl (fun _ _ _ h => h) (Or.inl ⟨by rfl, ?_⟩) hS ?_
          rotate_left
          · (intro wq hq; go_simp); first | done | with_reducible rfl
          try simp only [Act.put, List.setIfInBounds_toArray, List.set_cons_zero, List.set_cons_succ]
          replace hS := Till.list 11 hS
          refine take_w (i := 12) (v := ?_) (some 101) rfl (by kernel_rfl) rfl (fun _ _ _ h => h) (Or.inl ⟨by rfl, ?_⟩) hS ?_
          rotate_left
          · (intro wq hq; go_simp); first | done | with_reducible rfl
          try simp only [Act.put, List.setIfInBounds_toArray, List.set_cons_zero, List.set_cons_succ]
          replace hS := Till.list 12 hS
          refine take_w (i := 13) (v := ?_) (some 102) rfl (by kernel_rfl) rfl (fun _ _ _ h => h) (Or.inl ⟨by rfl, ?_⟩) hS ?_
          rotate_left
          · (intro wq hq; go_simp); first | done | with_reducible rfl
          try simp only [Act.put, List.setIfInBounds_toArray, List.set_cons_zero, List.set_cons_succ]
          replace hS := Till.list 13 hS
          refine take_w (i := 14) (v := ?_) (some 6) rfl (by kernel_rfl) rfl (fun _ _ _ h => h) (Or.inl ⟨by rfl, ?_⟩) hS ?_
          rotate_left
          · (intro wq hq; go_simp); first | done | with_reducible rfl
          try simp only [Act.put, List.setIfInBounds_toArray, List.set_cons_zero, List.set_cons_succ]
          replace hS := Till.list 14 hS
          refine done_g (by kernel_rfl) (NoPanic.normal ?_) _
          clear hS
          have hbx := Below.then (Below.then hb.drew hbj) hbk
          go_wp2_with fail
          go_ret
          exact ⟨rfl, hbx⟩
end Go.Proofs.Ytllgnafbemmcaaa
