/- Texts that belong together, one behind the other: QAf, QAg. -/
import Derived.Test.YtbfihajgjbpmaaaGreatGrnB
import Derived.Test.YtbfihajgjbpmaaaGreatGrnC
/- Stage 10: the document's own Key, Marks, Column. -/
namespace Go.Proofs.YtbfihajgjbpmaaaGreat
open Go.ChangeShapes Go.WideShapes Go.ChangeAt Go.RowKit
set_option linter.unusedVariables false
set_option maxRecDepth 4000

set_option maxHeartbeats 1000000 in
theorem rakey_any (A : Option Addr) (N C K : Nat) (m g : Int) (R : Option Addr) (n c : Nat) (v : RowV) (w : World) (hv : WV w R n v) (hK : K ≤ n) (hc : n ≤ c) (hn : n ≤ 100000) :
    Calls Tryz.prog 67 #[SS A N C K m g, .slice R n c] w fun e w' => ∃ A' C', e = .returned (.slice A' K C') ∧ OS 2 w' w.heap.size (.slice A' K C') K (vcells (v.take K)) ∧ Below w.heap.size w w' := by
  obtain ⟨c0, c1, c2, c3⟩ := (Sx.new w A N C K m g 24).alloc (.cells #[] 62)
  obtain ⟨a2, hsl, sv2⟩ := SV.slice_hi slA_row hv K c hK hc
  rw [show (vcells v).take (K * 2) = vcells (v.take K) from (vcells_take v K).symm] at sv2
  have hb := Joins.below_alloc2 w (.cells #[.slice A N C, .int .i64 K, .int .i64 m, .int .i64 g] 24) (.cells #[] 62)
  have o0 : OS 2 ((w.alloc (.cells #[.slice A N C, .int .i64 K, .int .i64 m, .int .i64 g] 24)).alloc (.cells #[] 62)) w.heap.size (.slice (some ⟨w.heap.size + 1, 0, none⟩) 0 0) 0 [] := OS.lit (k := 2) (w.alloc (.cells #[.slice A N C, .int .i64 K, .int .i64 m, .int .i64 g] 24)) w.heap.size (by simp) [] 0 62 rfl (by simp) (by simp) _ (by simp)
  go_enter Tryz.func67, Tryz.ntmps67
  go_wp2_with (at_builtin; refine append_os el_row rfl (.tmp 5) (.tmp 9) rfl w.heap.size _ 0 [] rfl o0 a2 K c _ rfl (SV.below sv2 hb) (by omega) (by omega) (by have := hb.size; omega) ?_; intro v2 w2 ho2 hb2; rw [Nat.zero_add, List.nil_append] at ho2; obtain ⟨a3, c3, rfl⟩ := ho2.shape)
  go_ret
  exact ⟨a3, c3, rfl, ho2, hb.trans hb2⟩
/-- the marks of the first rows -/
def markT (G K : Nat) (l : List RowV) (j : Nat) : List RowV := (List.range (cntG G j)).map fun i => (l.getD (i * G) []).take K
theorem markT_len (G K : Nat) (l : List RowV) (j : Nat) : (markT G K l j).length = cntG G j := by simp [markT]
set_option maxHeartbeats 4000000 in
theorem ramarks_any (A : Option Addr) (N C : Nat) (K : Nat) (m : Int) (G : Nat) (R : Option Addr) (n c : Nat) (vss : List RowV) (w : World) (hr : RVs w R n vss) (hn : n ≤ 100000) (hG : 1 ≤ G) (hG2 : G ≤ 100000) (hF : ∀ v ∈ vss, K ≤ v.length ∧ v.length ≤ 100000) :
    Calls Tryz.prog 37 #[SS A N C K m (G : Int), .slice R n c] w fun e w' => ∃ v, e = .returned v ∧ OwnRows w' w.heap.size v (cntG G n) (marksL G K vss) ∧ Below w.heap.size w w' := by
  have hl := Lib.hid hr.1
  have HF := Lib.hid hF
  have t0 := (Bk.new w #[.slice A N C, .int .i64 K, .int .i64 m, .int .i64 (G : Int)] 24).alloc (.cells #[] 46)
  have or0 : OwnRows ((w.alloc (.cells #[.slice A N C, .int .i64 K, .int .i64 m, .int .i64 (G : Int)] 24)).alloc (.cells #[] 46)) (w.heap.size + 1) (.slice (some ⟨w.heap.size + 1, 0, none⟩) 0 0) 0 [] := ⟨[], OS.lit (k := 1) (w.alloc (.cells #[.slice A N C, .int .i64 K, .int .i64 m, .int .i64 (G : Int)] 24)) (w.heap.size + 1) (by simp) [] 0 46 rfl (by simp) (by simp) _ (by simp), rfl, fun i hi => by omega⟩
  have hb0 := Joins.below_alloc2 w (.cells #[.slice A N C, .int .i64 K, .int .i64 m, .int .i64 (G : Int)] 24) (.cells #[] 46)
  clear hF
  go_enter Tryz.func37, Tryz.ntmps37
  go_wp2_with fail
  go_loopw [5, 6] (fun o i wr => ∃ (j q : Nat), j ≤ n ∧ i = .int .i64 (j : Int) ∧ Hid (cntG G j = q) ∧ q ≤ j ∧ OwnRows wr (w.heap.size + 1) o q (markT G K vss j) ∧ Bk wr w.heap.size #[.slice A N C, .int .i64 K, .int .i64 m, .int .i64 (G : Int)] 24 ∧ Below w.heap.size w wr) (fun _ i _ => n - (intOf i).toNat)
  case atStart => exact ⟨0, 0, by omega, rfl, Lib.hid (cnt_zero G hG), by omega, by unfold markT; rw [cnt_zero G hG]; exact or0, t0, hb0⟩
  case round =>
    clear or0 t0 hb0
    obtain ⟨j, q, hj, rfl, HQ, hqj, orr, t, hb⟩ := hrel
    by_cases hlt : j < n
    · have hji : (j : Int) < (n : Int) := by omega
      have hmg := marks_go (G := G) (K := K) hG (l := vss) (i := j) (by rw [hl.out]; exact hlt)
      obtain ⟨c0, c1, c2, c3⟩ := t.sx
      by_cases h0 : j % G = 0
      · have hrz : (j : Int) % (G : Int) = 0 := by omega
        have HS : Hid (markT G K vss (j + 1) = markT G K vss j ++ [(vss.getD j []).take K]) := Lib.hid (hmg.1 h0).symm
        have HQ2 : Hid (cntG G (j + 1) = q + 1) := by
          show _ = _
          rw [← markT_len G K vss, HS.out, List.length_append, markT_len, HQ.out]; rfl
        obtain ⟨b, off, A1, L1, C1, rfl, hc, hL1, hw1⟩ := hr.at j hlt
        have hlong := HF.out (vss.getD j []) (by
          have e : vss.getD j [] = vss[j]'(by rw [hl.out]; exact hlt) := by simp [List.getD, hl.out, hlt]
          rw [e]; exact List.getElem_mem _)
        have hl1 := WV.len hw1
        rw [hl1] at hlong
        have hc := keepc hc hb
        have hLC : L1 ≤ C1 := by
          obtain ⟨b', off', u, e1, e2, e3⟩ := (RVs.slR hr).at j hlt
          cases e1
          have e4 := keepc e2 hb
          rw [hc] at e4
          cases e4
          obtain ⟨A', L', C', e5, e6, -⟩ := e3.1
          cases e5
          exact e6
        have cc := rakey_any A N C K m (G : Int) A1 L1 C1 (vss.getD j []) wr.drew (SV.below hw1 hb.drew) hlong.1 hLC hlong.2
        generalize vss.getD j [] = rj at cc HS
        obtain ⟨fs, hfs⟩ : ∃ fs, markT G K vss j = fs := ⟨_, rfl⟩
        rw [hfs] at orr HS
        clear hfs hw1 hmg hl1 h0
        go_wp2_with fail
        refine wp_region_noPanic ?_
        refine region_g 6 (Ext (World.drew _)) (by kernel_rfl) (Ext.refl _) (fun hS => ?_)
        refine take_w (i := 0) (v := ?_) (some 19) rfl (by kernel_rfl) rfl (fun _ _ _ h => h) (Or.inl ⟨by rfl, ?_⟩) hS ?_
        rotate_left
        · (intro wq hq; go_simp); first | done | with_reducible rfl
        try simp only [Act.put, List.setIfInBounds_toArray, List.set_cons_zero, List.set_cons_succ]
        replace hS := Till.list 0 hS
        refine take_g (i := 1) (v := ?_) [1] (some 20) rfl (by kernel_rfl) rfl (fun _ _ _ h => h) (Or.inl ⟨by rfl, ?_⟩) hS ?_
        rotate_left
        · (intro wq hq; have q0 := hq _ _ _ c0; have q1 := hq _ _ _ c1; have q2 := hq _ _ _ c2; have q3 := hq _ _ _ c3; have q4 := hq _ _ _ hc; go_simp); first | done | with_reducible rfl
        try simp only [Act.put, List.setIfInBounds_toArray, List.set_cons_zero, List.set_cons_succ]
        replace hS := Till.list 1 hS
        refine take_w (i := 2) (v := ?_) (some 21) rfl (by kernel_rfl) rfl (fun _ _ _ h => h) (Or.inl ⟨by rfl, ?_⟩) hS ?_
        rotate_left
        · (intro wq hq; go_simp); first | done | with_reducible rfl
        try simp only [Act.put, List.setIfInBounds_toArray, List.set_cons_zero, List.set_cons_succ]
        replace hS := Till.list 2 hS
        refine take_w (i := 3) (v := ?_) (some 22) rfl (by kernel_rfl) rfl (fun _ _ _ h => h) (Or.inl ⟨by rfl, ?_⟩) hS ?_
        rotate_left
        · (intro wq hq; go_simp); first | done | with_reducible rfl
        try simp only [Act.put, List.setIfInBounds_toArray, List.set_cons_zero, List.set_cons_succ]
        replace hS := Till.list 3 hS
        refine take_w (i := 4) (v := ?_) (some 23) rfl (by kernel_rfl) rfl (fun _ _ _ h => h) (Or.inl ⟨by rfl, ?_⟩) hS ?_
        rotate_left
        · (intro wq hq; go_simp); first | done | with_reducible rfl
        try simp only [Act.put, List.setIfInBounds_toArray, List.set_cons_zero, List.set_cons_succ]
        replace hS := Till.list 4 hS
        refine take_g (i := 5) (v := ?_) [5] (some 24) rfl (by kernel_rfl) rfl (fun _ _ _ h => h) (Or.inl ⟨by rfl, ?_⟩) hS ?_
        rotate_left
        · (intro wq hq; have q0 := hq _ _ _ c0; have q1 := hq _ _ _ c1; have q2 := hq _ _ _ c2; have q3 := hq _ _ _ c3; have q4 := hq _ _ _ hc; go_simp); first | done | with_reducible rfl
        try simp only [Act.put, List.setIfInBounds_toArray, List.set_cons_zero, List.set_cons_succ]
        replace hS := Till.list 5 hS
        refine ready_g (rs := [6]) (by kernel_rfl) (by simp) ?_
        refine AllReadyG.cons rfl (fun Kont hK => ?_) AllReadyG.nil
        go_simp
        refine cc.mono ?_
        rintro e w5 ⟨a5, c5, rfl, o5, hb5⟩
        refine hK.out _ _ (Or.inl (by kernel_rfl)) (fun hS0 => ?_)
        clear hK Kont
        try simp only [Act.put, List.setIfInBounds_toArray, List.set_cons_zero, List.set_cons_succ]
        clear hS
        have hS := hS0
        clear hS0
        have ro5 : RO w5 u5.ownBlock (.slice a5 K c5) (rj.take K) := RO.own o5 (fun b hb => by have := orr.lt b hb; exact this)
        have t5 := Bk.below (w := wr.drew) t hb5
        have or5 := OwnRows.below (w := wr.drew) orr hb5
        have hb2 := Below.then hb.drew hb5
        clear c0 c1 c2 c3 cc hc orr t o5 hb hb5
        obtain ⟨cs, ocs, hlr, hro⟩ := or5
        have ho6 := ocs.alloc (.cells #[.slice a5 K c5] 46)
        have hcl : cs.length = q := by have := ocs.1; omega
        have hbs := t5.lt
        have hsv : SV 1 (w5.alloc (.cells #[.slice a5 K c5] 46)) (some ⟨w5.heap.size, 0, none⟩) 1 [.slice a5 K c5] := SV.lit' (k := 1) w5 [.slice a5 K c5] 1 46 rfl (by simp [Value.oneCell']) _ rfl
        have hbase : w.heap.size + 1 ≤ (w5.alloc (.cells #[.slice a5 K c5] 46)).heap.size := by rw [heap_alloc]; omega
        refine ready_g (rs := [7]) (by kernel_rfl) (by simp) ?_
        refine AllReadyG.cons rfl (fun Kont hK => ?_) AllReadyG.nil
        go_simp
        refine hK.out _ _ (Or.inl (by kernel_rfl)) (fun hS0 => ?_)
        clear hK Kont
        try simp only [Act.put, List.setIfInBounds_toArray, List.set_cons_zero, List.set_cons_succ]
        clear hS
        have hS := hS0
        clear hS0
        refine ready_g (rs := [8]) (by kernel_rfl) (by simp) ?_
        refine AllReadyG.cons rfl (fun Kont hK => ?_) AllReadyG.nil
        refine want (by kernel_rfl) ?_
        refine wp_append_os2 el_rows (some 27) rfl (.tmp 19) (.tmp 26) rfl (w.heap.size + 1) u5 q _ rfl ho6 _ 1 1 [.slice a5 K c5] rfl hsv (by omega) (by omega) hbase ?_
        intro v6 w6 ho7 hb6 hk6 hst6
        refine hK.out _ _ (Or.inl (by kernel_rfl)) (fun hS0 => ?_)
        clear hK Kont
        try simp only [Act.put, List.setIfInBounds_toArray, List.set_cons_zero, List.set_cons_succ]
        clear hS
        have hS := hS0
        clear hS0
        have hba := Joins.below_alloc1 w5 (.cells #[.slice a5 K c5] 46)
        have or6 := OwnRows.snoc (v := u5) ho7 hlr hcl (fun i hi => (hro i hi).below hba) (ro5.below hba) hk6 hst6
        have t6 := (t5.alloc (.cells #[.slice a5 K c5] 46)).low hb6 (by omega)
        have hb7 := (hb2.alloc hb2.size (.cells #[.slice a5 K c5] 46)).trans (hb6.mono (by omega))
        clear ho6 ho7 hb6 hk6 hst6 hba ro5 hro ocs hlr hcl cs t5 hb2 hsv hbase
        rw [← HS.out] at or6
        refine take_w (i := 9) (v := ?_) (some 5) rfl (by kernel_rfl) rfl (fun _ _ _ h => h) (Or.inl ⟨by rfl, ?_⟩) hS ?_
        rotate_left
        · (intro wq hq; go_simp); first | done | with_reducible rfl
        try simp only [Act.put, List.setIfInBounds_toArray, List.set_cons_zero, List.set_cons_succ]
        replace hS := Till.list 9 hS
        refine done_g (by kernel_rfl) (NoPanic.normal ?_) _
        clear hS
        go_wp2_with fail
        go_roundw
        case rel => exact ⟨j + 1, q + 1, by omega, by go_num, HQ2, by omega, or6, t6, hb7⟩
        case measure => simp [intOf]; omega
      · have hrz : ¬ (j : Int) % (G : Int) = 0 := by omega
        have HQ2 : Hid (cntG G (j + 1) = q) := by show _ = _; rw [hmg.2 h0, HQ.out]
        have HS : Hid (markT G K vss (j + 1) = markT G K vss j) := by show _ = _; unfold markT; rw [hmg.2 h0]
        clear hmg h0
        go_wp2_with fail
        go_roundw
        case rel => exact ⟨j + 1, q, by omega, by go_num, HQ2, by omega, by rw [HS.out]; exact orr, t, hb⟩
        case measure => simp [intOf]; omega
    · have hji : ¬ (j : Int) < (n : Int) := by omega
      obtain rfl : j = n := by omega
      have HM : Hid (markT G K vss j = marksL G K vss) := by show _ = _; unfold markT marksL; rw [hl.out]
      rw [HM.out] at orr
      have orr2 := orr.lower (Nat.le_succ w.heap.size)
      clear orr
      go_wp2_with fail
      go_ret
      rw [HQ.out]
      exact ⟨u5, rfl, orr2, hb⟩
end Go.Proofs.YtbfihajgjbpmaaaGreat
/- Stage 10: the document's own Column. -/
namespace Go.Proofs.YtbfihajgjbpmaaaGreat
open Go.ChangeShapes Go.WideShapes Go.ChangeAt Go.RowKit
set_option linter.unusedVariables false
set_option maxRecDepth 4000

set_option maxHeartbeats 2000000 in
theorem racolumn_any (R : Option Addr) (n c : Nat) (vss : List RowV) (at0 : Int) (w : World) (hr : RVs w R n vss) (hn : n ≤ 100000) :
    Calls Tryz.prog 36 #[.slice R n c, .int .i64 at0] w fun e w' => ∃ v, e = .returned v ∧ OS 2 w' w.heap.size v (colL vss at0).length (vcells (colL vss at0)) ∧ Below w.heap.size w w' := by
  have hl := Lib.hid hr.1
  have o0 : OS 2 (w.alloc (.cells #[] 62)) w.heap.size (.slice (some ⟨w.heap.size, 0, none⟩) 0 0) 0 [] := OS.lit (k := 2) w w.heap.size (Nat.le_refl _) [] 0 62 rfl (by simp) (by simp) _ rfl
  have hb0 := Joins.below_alloc1 w (.cells #[] 62)
  go_enter Tryz.func36, Tryz.ntmps36
  go_wp2_with fail
  go_loopw [5, 6] (fun o i wr => ∃ (j : Nat), j ≤ n ∧ i = .int .i64 (j : Int) ∧ OS 2 wr w.heap.size o j (vcells (colT vss at0.toNat j)) ∧ Hid (∀ x, x < j → 0 ≤ at0 ∧ at0 < ((vss.getD x []).length : Int)) ∧ Below w.heap.size w wr) (fun _ i _ => n - (intOf i).toNat)
  case atStart => exact ⟨0, by omega, rfl, o0, Lib.hid (fun x hx => by omega), hb0⟩
  case round =>
    clear o0 hb0
    obtain ⟨j, hj, rfl, ho, HB, hb⟩ := hrel
    by_cases hlt : j < n
    · have hji : (j : Int) < (n : Int) := by omega
      obtain ⟨b, off, A1, L1, C1, rfl, hc, hL1, hw1⟩ := hr.at j hlt
      have hc := keepc hc hb
      have hw1 := SV.below hw1 hb
      by_cases hat : 0 ≤ at0 ∧ at0 < (L1 : Int)
      · obtain ⟨k, rfl⟩ : ∃ k : Nat, at0 = (k : Int) := ⟨at0.toNat, by omega⟩
        have hk : k < L1 := by omega
        have hl1 := WV.len hw1
        obtain ⟨b1, off1, rfl, hd1, hd2⟩ := WV.at hw1 k hk
        have HS := Lib.hid (colT_snoc k (l := vss) (j := j) (by rw [hl.out]; exact hlt))
        have HB2 : Hid (∀ x, x < j + 1 → 0 ≤ (k : Int) ∧ (k : Int) < ((vss.getD x []).length : Int)) := Lib.hid (fun x hx => by
          by_cases hxj : x < j
          · exact HB.out x hxj
          · obtain rfl : x = j := by omega
            rw [hl1]; exact hat)
        rw [Int.toNat_natCast] at ho
        generalize (vss.getD j []).getD k v0 = y at hd1 hd2 HS
        have hk1 : ¬ (k : Int) < 0 := by omega
        have hk2 : ¬ (k : Int) ≥ (L1 : Int) := by omega
        clear hw1 HB
        go_wp2_with (at_builtin; refine append_os2 el_vals rfl (.tmp 25) (.tmp 33) rfl w.heap.size u5 j _ rfl (ho.alloc _) _ 1 1 [.int .i64 y.1, .string y.2] rfl (SV.lit' (k := 2) _ [.int .i64 y.1, .string y.2] 1 62 rfl (twoA_one _ _) _ rfl) (by omega) (by omega) (by have := hb.size; rw [heap_alloc]; omega) ?_; intro v2 w2 ho2 hb2 hk3 hst2)
        have ho3 : OS 2 w2 w.heap.size v2 (j + 1) (vcells (colT vss ((k : Int)).toNat (j + 1))) := by
          rw [Int.toNat_natCast, HS.out, vcells_app]
          exact ho2
        have hb3 := (hb.alloc hb.size (.cells #[.int .i64 y.1, .string y.2] 62)).trans hb2
        clear ho ho2 hb2 hk3 hst2 hd1 hd2 hc
        go_roundw
        case rel => exact ⟨j + 1, by omega, by go_num, ho3, HB2, hb3⟩
        case measure => simp [intOf]; omega
      · have HE : Hid (colL vss at0 = []) := Lib.hid (colL_none (x := j) (by rw [hl.out]; exact hlt) (by rw [WV.len hw1]; exact hat))
        clear ho
        by_cases h0 : at0 < 0
        · go_wp2_with fail
          go_ret
          rw [HE.out]
          exact ⟨_, rfl, OS.nil _ _, hb⟩
        · have hk2 : at0 ≥ (L1 : Int) := by omega
          go_wp2_with fail
          go_ret
          rw [HE.out]
          exact ⟨_, rfl, OS.nil _ _, hb⟩
    · have hji : ¬ (j : Int) < (n : Int) := by omega
      obtain rfl : j = n := by omega
      have HE : Hid (colT vss at0.toNat j = colL vss at0) := by
        show _ = _
        by_cases h0 : 0 ≤ at0
        · obtain ⟨k, rfl⟩ : ∃ k : Nat, at0 = (k : Int) := ⟨at0.toNat, by omega⟩
          have := colT_all (l := vss) (k := k) (fun x hx => by have := HB.out x (by rw [← hl.out]; exact hx); omega)
          rw [hl.out] at this
          rw [Int.toNat_natCast]; exact this
        · have hj0 : j = 0 := by
            by_cases hj0 : j = 0
            · exact hj0
            · exact absurd (HB.out 0 (by omega)).1 h0
          subst hj0
          have : vss = [] := List.eq_nil_of_length_eq_zero hl.out
          rw [this]
          simp [colT, colL]
      have hlen : Hid ((colL vss at0).length = j) := by show _ = _; rw [← HE.out]; unfold colT; rw [List.length_map, List.length_take, hl.out, Nat.min_self]
      rw [HE.out] at ho
      go_wp2_with fail
      go_ret
      rw [hlen.out]
      exact ⟨u5, rfl, ho, hb⟩
end Go.Proofs.YtbfihajgjbpmaaaGreat
