/- Texts that belong together, one behind the other: QBg. -/
import Derived.Test.YtbfihajgjbpmaaaGreatPrtD
import Derived.Test.YtbfihajgjbpmaaaGreatSchF
import Derived.Test.YtbfihajgjbpmaaaGreatBlockOwn
import Derived.Test.YtbfihajgjbpmaaaGreatGrnD
import Derived.Test.YtbfihajgjbpmaaaGreatGrnE
import Derived.Test.YtbfihajgjbpmaaaGreatOwn
/- Stage 11: the document's own Write. -/
namespace Go.Proofs.YtbfihajgjbpmaaaGreat
open Go.ChangeShapes Go.WideShapes Go.ChangeAt Go.RowKit
set_option linter.unusedVariables false
set_option maxRecDepth 4000

set_option maxHeartbeats 4000000 in
theorem rbwrite_any (A : Option Addr) (N C : Nat) (ts : List Int) (k m g : Int) (R : Option Addr) (n c : Nat) (vss : List RowV) (w : World) (hv : IV w A N ts) (hN : N ≤ maxLen) (hr : RVs w R n vss) (hn : n ≤ maxLen) (hg : ∀ v ∈ vss, RgV v) :
    Calls Tryz.prog 12 #[SS A N C k m g, .slice R n c] w fun e w' => WriteE w w' ts k m g vss e := by
  have hn' := hn
  unfold maxLen at hn'
  have hl := Lib.hid hr.1
  have HG := Lib.hid hg
  clear hg
  have t0 := Bk.new w #[.slice A N C, .int .i64 k, .int .i64 m, .int .i64 g] 24
  have hb0 := Joins.below_alloc1 w (.cells #[.slice A N C, .int .i64 k, .int .i64 m, .int .i64 g] 24)
  obtain ⟨c0, c1, c2, c3⟩ := t0.sx
  go_enter Tryz.func12, Tryz.ntmps12
  go_wp2_with fail
  clear c0 c1 c2 c3
  refine (rcheck_any A N C ts k m g _ (hv.below hb0) hN).mono ?_
  rintro e w1 ⟨rfl, hb1⟩
  have t1 := t0.below hb1
  have hb := Below.then hb0 hb1
  clear t0 hb0 hb1
  obtain ⟨c0, c1, c2, c3⟩ := t1.sx
  cases hck : checkB ts k m g
  · have no := Lib.hid (chE_schema (l := vss) hck)
    rw [chkE, hck]
    clear hck
    go_wp2_with fail
    go_ret2
    exact .inr ⟨by rw [no.out]; decide, by rw [no.out]; rfl, hb⟩
  rw [chkE, hck]
  have HK := Lib.hid hck
  clear hck
  by_cases h0 : 1 ≤ n ∧ n ≤ 2000
  case neg =>
    have no := Lib.hid (chE_size (l := vss) HK.out (by rw [hl.out]; exact h0))
    by_cases h1 : n = 0
    · have hz : (n : Int) < 1 := by omega
      clear h0 h1
      go_wp2_with fail
      go_ret2
      exact .inr ⟨by rw [no.out]; decide, by rw [no.out]; rfl, hb⟩
    · have hz : ¬ (n : Int) < 1 := by omega
      have hz2 : (2000 : Int) < (n : Int) := by omega
      clear h0 h1
      go_wp2_with fail
      go_ret2
      exact .inr ⟨by rw [no.out]; decide, by rw [no.out]; rfl, hb⟩
  have hz : ¬ (n : Int) < 1 := by omega
  have hz2 : ¬ (2000 : Int) < (n : Int) := by omega
  have hcd : ¬ ((n : Int) < 1 ∨ (2000 : Int) < (n : Int)) := by omega
  have HS := Lib.hid (show 1 ≤ vss.length ∧ vss.length ≤ 2000 by rw [hl.out]; exact h0)
  go_wp2_with fail
  clear c0 c1 c2 c3
  generalize decide ((n : Int) < 1) = q1
  generalize decide ((2000 : Int) < (n : Int)) = q2
  obtain ⟨K, rfl⟩ : ∃ K : Nat, k = (K : Int) := ⟨k.toNat, by have := check_is HK.out; omega⟩
  obtain ⟨G, rfl⟩ : ∃ G : Nat, g = (G : Int) := ⟨g.toNat, by have := check_is HK.out; omega⟩
  have hck := check_is HK.out
  rw [(show ts.length = N from IV.len hv)] at hck
  have hnum : (1 ≤ N ∧ N ≤ 64) ∧ (1 ≤ K ∧ K ≤ N) ∧ (1 ≤ G ∧ G ≤ 64) := by omega
  obtain ⟨⟨hN1, hN2⟩, ⟨hK1, hK2⟩, ⟨hG1, hG2⟩⟩ := hnum
  have HT : Hid (Ty ts) := Lib.hid (check_is HK.out).2.2.2.2.2.2.2.2
  have hlt := Lib.hid (show ts.length = N from IV.len hv)
  clear hcd hz hz2 hck
  go_loopw [6, 7] (fun i v7 wr => ∃ j : Nat, j ≤ n ∧ i = .int .i64 (j : Int) ∧ Hid (∀ i, i < j → rowB ts (vss.getD i []) = true) ∧ Bk wr w.heap.size #[.slice A N C, .int .i64 (K : Int), .int .i64 m, .int .i64 (G : Int)] 24 ∧ Below w.heap.size w wr) (fun i _ _ => n - (intOf i).toNat)
  case atStart => exact ⟨0, by omega, rfl, Lib.hid (fun i hi => by omega), t1, hb⟩
  case round =>
    clear t1 hb
    obtain ⟨j, hj, rfl, HA, t, hb⟩ := hrel
    obtain ⟨c0, c1, c2, c3⟩ := t.sx
    by_cases hltj : j < n
    · have hji : (j : Int) < (n : Int) := by omega
      obtain ⟨b, off, A1, L1, C1, rfl, hc, hL1, hw1⟩ := hr.at j hltj
      have hc := keepc hc hb
      have cc := rrow_any A N C ts (K : Int) m (G : Int) A1 L1 C1 (vss.getD j []) wr.drew (hv.below hb.drew) hN (hw1.below hb.drew) hL1
      obtain ⟨rb, hrb⟩ : ∃ rb, rowB ts (vss.getD j []) = rb := ⟨_, rfl⟩
      rw [hrb] at cc
      have HRB := Lib.hid hrb
      clear hw1 hrb
      go_wp2_with fail
      refine wp_region_noPanic ?_
      refine region_g 5 (Ext (World.drew _)) (by kernel_rfl) (Ext.refl _) (fun hS => ?_)
      refine take_g (i := 0) (v := ?_) [0] (some 40) rfl (by kernel_rfl) rfl (fun _ _ _ h => h) (Or.inl ⟨by rfl, ?_⟩) hS ?_
      rotate_left
      · (intro wq hq; have q0 := hq _ _ _ c0; have q1 := hq _ _ _ c1; have q2 := hq _ _ _ c2; have q3 := hq _ _ _ c3; have q4 := hq _ _ _ hc; go_simp); first | done | with_reducible rfl
      try simp only [Act.put, List.setIfInBounds_toArray, List.set_cons_zero, List.set_cons_succ]
      replace hS := Till.list 0 hS
      refine take_w (i := 1) (v := ?_) (some 41) rfl (by kernel_rfl) rfl (fun _ _ _ h => h) (Or.inl ⟨by rfl, ?_⟩) hS ?_
      rotate_left
      · (intro wq hq; go_simp); first | done | with_reducible rfl
      try simp only [Act.put, List.setIfInBounds_toArray, List.set_cons_zero, List.set_cons_succ]
      replace hS := Till.list 1 hS
      refine take_w (i := 2) (v := ?_) (some 42) rfl (by kernel_rfl) rfl (fun _ _ _ h => h) (Or.inl ⟨by rfl, ?_⟩) hS ?_
      rotate_left
      · (intro wq hq; go_simp); first | done | with_reducible rfl
      try simp only [Act.put, List.setIfInBounds_toArray, List.set_cons_zero, List.set_cons_succ]
      replace hS := Till.list 2 hS
      refine take_w (i := 3) (v := ?_) (some 43) rfl (by kernel_rfl) rfl (fun _ _ _ h => h) (Or.inl ⟨by rfl, ?_⟩) hS ?_
      rotate_left
      · (intro wq hq; go_simp); first | done | with_reducible rfl
      try simp only [Act.put, List.setIfInBounds_toArray, List.set_cons_zero, List.set_cons_succ]
      replace hS := Till.list 3 hS
      refine take_g (i := 4) (v := ?_) [4] (some 44) rfl (by kernel_rfl) rfl (fun _ _ _ h => h) (Or.inl ⟨by rfl, ?_⟩) hS ?_
      rotate_left
      · (intro wq hq; have q0 := hq _ _ _ c0; have q1 := hq _ _ _ c1; have q2 := hq _ _ _ c2; have q3 := hq _ _ _ c3; have q4 := hq _ _ _ hc; go_simp); first | done | with_reducible rfl
      try simp only [Act.put, List.setIfInBounds_toArray, List.set_cons_zero, List.set_cons_succ]
      replace hS := Till.list 4 hS
      refine ready_g (rs := [5]) (by kernel_rfl) (by simp) ?_
      refine AllReadyG.cons rfl (fun Kont hK => ?_) AllReadyG.nil
      go_simp
      refine cc.mono ?_
      rintro e w2 ⟨rfl, hb2⟩
      refine hK.out _ _ (Or.inl (by kernel_rfl)) (fun hS0 => ?_)
      clear hK Kont
      try simp only [Act.put, List.setIfInBounds_toArray, List.set_cons_zero, List.set_cons_succ]
      clear hS
      have hS := hS0
      clear hS0
      refine take_w (i := 6) (v := ?_) (some 7) rfl (by kernel_rfl) rfl (fun _ _ _ h => h) (Or.inl ⟨by rfl, ?_⟩) hS ?_
      rotate_left
      · (intro wq hq; go_simp); first | done | with_reducible rfl
      try simp only [Act.put, List.setIfInBounds_toArray, List.set_cons_zero, List.set_cons_succ]
      replace hS := Till.list 6 hS
      refine done_g (by kernel_rfl) (NoPanic.normal ?_) _
      clear hS
      have hb' := Below.then hb.drew hb2
      have t2 := Bk.below (w := wr.drew) t hb2
      clear hb2 hc c0 c1 c2 c3 hb t cc
      cases rb
      · have no := Lib.hid (chE_row (l := vss) HK.out HS.out (i := j) (by rw [hl.out]; exact hltj) HRB.out)
        go_wp2_with fail
        go_ret2
        exact .inr ⟨by rw [no.out]; decide, by rw [no.out]; rfl, hb'⟩
      · have HA' : Hid (∀ i, i < j + 1 → rowB ts (vss.getD i []) = true) := Lib.hid (fun i hi => by
          by_cases hij : i < j
          · exact HA.out i hij
          · obtain rfl : i = j := by omega
            exact HRB.out)
        go_wp2_with fail
        go_roundw
        case rel => exact ⟨j + 1, by omega, by go_num, HA', t2, hb'⟩
        case measure => simp [intOf]; omega
    · have hji : ¬ (j : Int) < (n : Int) := by omega
      obtain rfl : j = n := by omega
      have hall : Hid (∀ r ∈ vss, rowB ts r = true) := Lib.hid (fun r hr => by
        obtain ⟨i, hi, rfl⟩ := List.mem_iff_getElem.1 hr
        have := HA.out i (by rw [← hl.out]; exact hi)
        rwa [List.getD_eq_getElem?_getD, List.getElem?_eq_getElem hi, Option.getD_some] at this)
      have HE := Lib.hid (chE_sorted (l := vss) HK.out HS.out hall.out)
      have hF : ∀ v ∈ vss, FR ts v := fun v hv => fr_row HT.out (hall.out v hv) (HG.out v hv)
      have cc := r9sorted_any A N C ts K m (G : Int) R j c vss wr (hv.below hb) hN (by unfold maxLen; omega) HT.out (hr.below hb) (by omega) hF
      rw [Int.toNat_natCast] at HE
      clear hF HA
      go_wp2_with fail
      refine cc.mono ?_
      rintro e w2 ⟨rfl, hb2⟩
      have hb' := Below.then hb hb2
      have t2 := t.below hb2
      clear cc hb2 c0 c1 c2 c3 t hb
      cases hs : srtB (cN ts K) [] vss
      · rw [hs] at HE
        clear hs
        go_wp2_with fail
        go_ret2
        exact .inr ⟨by rw [HE.out]; decide, by rw [HE.out]; rfl, hb'⟩
      rw [hs] at HE
      have HE0 : Hid (chE ts (K : Int) m (G : Int) vss = 0) := Lib.hid (by rw [HE.out]; rfl)
      have hpo := (chE_part HE0.out HG.out).1
      rw [Int.toNat_natCast, Int.toNat_natCast] at hpo
      have HP := Lib.hid hpo
      have hsm := (schema_small HK.out).2
      obtain ⟨sl, hsl⟩ : ∃ sl, (putS ts (K : Int) m (G : Int)).length = sl := ⟨_, rfl⟩
      rw [hsl] at hsm
      obtain ⟨c0, c1, c2, c3⟩ := t2.sx
      clear hs HE hpo hall
      go_wp2_with fail
      clear c0 c1 c2 c3
      refine (rput_any A N C ts K m G _ (hv.below hb') HK.out).mono ?_
      rintro e w3 ⟨v3, rfl, o3, hb3⟩
      obtain ⟨a3, d3, rfl, -, -, bv3, -⟩ := o3.bvn (put_bytes HK.out) sl hsl
      have t3 := t2.below hb3
      have hw3 := Below.then hb' hb3
      clear t2 hb' hb3 o3 hsl
      go_wp2_with fail
      refine (rframeu_any a3 sl d3 _ w3 bv3 (by omega)).mono ?_
      rintro e w4 ⟨o4, rfl, ou4, hb4⟩
      have hw4 := Below.then hw3 hb4
      have ou4 := ou4.mono hw3.size
      rw [← frB_zero ts K m G vss] at ou4
      have t4 := (t3.below hb4).alloc (.cells #[] 62)
      have hw5 := hw4.alloc hw4.size (.cells #[] 62)
      have hos : OS 2 (w4.alloc (.cells #[] 62)) w4.heap.size (.slice (some ⟨w4.heap.size, 0, none⟩) 0 0) 0 [] := OS.lit (k := 2) w4 w4.heap.size (Nat.le_refl _) [] 0 62 rfl (by simp) (by simp) _ rfl
      have hp0 := Bk.new w4 #[] 62
      have ou5 := ou4.alloc (.cells #[] 62)
      have hlo : Hid (∀ b, o4.ownBlock = some b → w.heap.size ≤ b ∧ b < w4.heap.size) := Lib.hid (fun b hb => ou4.ow.ownU hb)
      have hwz := hw4.size
      clear t3 hw3 hb4 bv3 ou4 hw4
      obtain ⟨c0, c1, c2, c3⟩ := t4.sx
      go_wp2_with fail
      clear c0 c1 c2 c3
      generalize w4.alloc (.cells #[] 62) = w5 at *
      generalize w4.heap.size = p0 at *
      refine (rasplit_any A N C (K : Int) m G R j c vss w5 (hr.below hw5) (by omega) hG1 (by omega)).mono ?_
      rintro e w6 ⟨A6, C6, rfl, h61, h62, gr6, hb6⟩
      have t6 := t4.below hb6
      have hw6 := Below.then hw5 hb6
      have ou6 := ou5.below hb6
      have hos6 := hos.below hb6
      have hp6 := hp0.below hb6
      have hv6 := hv.below hw6
      have hp6s : p0 ≤ w6.heap.size := Nat.le_of_lt hp6.lt
      have hqn := cntG_le (G := G) (j := j) hG1
      obtain ⟨q, hq⟩ : ∃ q, cntG G j = q := ⟨_, rfl⟩
      rw [hq] at gr6 hqn h61 ⊢
      have HQ := Lib.hid hq
      have hby : Hid (∀ x, Byt (frB ts K m G vss x)) := Lib.hid (fun x => frs_byt _ (fun d hd => (HP.out.front (gs := (splitL G vss).take x) (fun g hg => List.mem_of_mem_take hg) d hd).1))
      have hfl : Hid (∀ x, (frB ts K m G vss x).length ≤ 128001 * 500015) := Lib.hid (fun x => HP.out.front_len (fun g hg => List.mem_of_mem_take hg) (by rw [List.length_take, splitL_len, hl.out, HQ.out]; omega))
      obtain ⟨H, hH⟩ : ∃ H : Nat → Prop, H = fun b => o4.ownBlock = some b ∨ b = p0 := ⟨_, rfl⟩
      have hHU : Hid (∀ b, H b → U8K w6 b) := Lib.hid (fun b hb => by
        rw [hH] at hb
        rcases hb with hb | rfl
        · exact ou6.u8 b hb
        · intro c' T' f e
          have e2 := hp6
          unfold Bk at e2
          rw [e2] at e
          cases e
          intro x hx
          simp at hx)
      have hHw : Hid (∀ b, H b → w.heap.size ≤ b) := Lib.hid (fun b hb => by
        rw [hH] at hb
        rcases hb with hb | rfl
        · exact (hlo.out b hb).1
        · exact hwz)
      have hso : Hid (∀ b, o4.ownBlock = some b → H b ∨ w6.heap.size ≤ b) := Lib.hid (fun b hb => .inl (by rw [hH]; exact .inl hb))
      have hsp : Hid (∀ b, (Value.slice (some ⟨p0, 0, none⟩) 0 0).ownBlock = some b → H b ∨ w6.heap.size ≤ b) := Lib.hid (fun b hb => .inl (by rw [hH]; cases hb; exact .inr rfl))
      have hsep0 : Hid (∀ g, o4.ownBlock = some g → (Value.slice (some ⟨p0, 0, none⟩) 0 0).ownBlock ≠ some g) := Lib.hid (fun g hg e => by have h2 := (hlo.out g hg).2; have e2 : p0 = g := Option.some.inj e; omega)
      have hnb : ∃ y ∈ (#[.slice A N C, .int .i64 (K : Int), .int .i64 m, .int .i64 (G : Int)] : Array Value).toList, ∀ z, y ≠ .int .u8 z := ⟨.slice A N C, by simp, fun z h => by cases h⟩
      clear hq hH t4 hw5 hb6 ou5 hos hp0 hp6 hlo hwz
      go_wp2_with fail
      go_loopw [9, 10, 12, 13, 14, 15] (fun o bg i v13 v14 v15 wr => ∃ (x : Nat), x ≤ q ∧ i = .int .i64 (x : Int) ∧ OU wr 0 o (frB ts K m G vss x) ∧ OS 2 wr p0 bg x (vcells ((placesV ts K m G vss).take x)) ∧ Hid (∀ b, o.ownBlock = some b → H b ∨ w6.heap.size ≤ b) ∧ Hid (∀ b, bg.ownBlock = some b → H b ∨ w6.heap.size ≤ b) ∧ Hid (∀ g, o.ownBlock = some g → bg.ownBlock ≠ some g) ∧ Kp H w6 wr) (fun _ _ i _ _ _ _ => q - (intOf i).toNat)
      case atStart => exact ⟨0, by omega, rfl, ou6.mono (Nat.zero_le _), hos6, hso, hsp, hsep0, Kp.refl _ _⟩
      case round =>
        clear ou6 hos6 hso hsp hsep0
        obtain ⟨x, hx, rfl, hox, hos, hno, hnb2, hsep, hk⟩ := hrel
        have tr := t6.kp hnb hHU.out hk
        obtain ⟨L, hL⟩ : ∃ L, (frB ts K m G vss x).length = L := ⟨_, rfl⟩
        have hLm := hfl.out x
        rw [hL] at hLm
        by_cases hlt2 : x < q
        · have hxi : (x : Int) < (q : Int) := by omega
          have hxq : x < cntG G vss.length := by rw [hl.out, HQ.out]; exact hlt2
          obtain ⟨b, off, u, rfl, hc6, hu6⟩ := gr6.at x hlt2
          rw [splitL_at hxq] at hu6
          obtain ⟨A2, L2, C2, rfl, g1, g2, g3, -⟩ := id hu6
          obtain ⟨ao, co, rfl, -, -, -, -⟩ := hox.ow.bvn (hby.out x) L hL
          have HPN := Lib.hid (plV_next (K := K) (m := m) hxq (ts := ts))
          have HFN := Lib.hid (frB_next (K := K) (m := m) hxq (ts := ts))
          have hgo := split_ok HP.out.rows HP.out.most (granL G vss x) (List.mem_map.2 ⟨x, List.mem_range.2 hxq, rfl⟩)
          rw [hL] at HPN
          have HGO := Lib.hid hgo
          obtain ⟨c0, c1, c2, c3⟩ := tr.sx
          have hgsz := hk.size
          have hL' := Lib.hid hL
          clear hgo hxq hL
          go_wp2_with (at_builtin; refine append_os2 el_vals rfl (.tmp 66) (.tmp 70) rfl p0 u10 x _ rfl (hos.alloc _) _ 1 1 [.int .i64 (L : Int), .string ⟨#[]⟩] rfl (SV.lit' (k := 2) _ [.int .i64 (L : Int), .string ⟨#[]⟩] 1 62 rfl (twoA_one _ _) _ rfl) (by omega) (by omega) (by rw [heap_alloc]; omega) ?_; intro v7 w7 ho7 hb7 hk7 hst7)
          obtain ⟨hk7', hnb7⟩ := Kp.app (hk.alloc (.cells #[.int .i64 (L : Int), .string ⟨#[]⟩] 62)) hnb2.out hb7 hk7 hst7
          have ho7 : OS 2 w7 p0 v7 (x + 1) (vcells ((placesV ts K m G vss).take (x + 1))) := by rw [HPN.out, vcells_app]; exact ho7
          have ou7 : OU w7 0 (.slice ao L co) (frB ts K m G vss x) := (hox.alloc (.cells #[.int .i64 (L : Int), .string ⟨#[]⟩] 62)).same (fun g hg hlt => hst7 g hlt (hsep.out g hg))
          have HN7 := Lib.hid hnb7
          have HGl : Hid ((granL G vss x).length ≤ 2000) := Lib.hid HGO.out.2
          clear c0 c1 c2 c3 hb7 hk7 hst7 hos hox hk tr HPN hnb2 hsep hnb7
          go_wp2_with fail
          go_loopw [9, 13, 14, 15] (fun o kk v14 v15 wz => ∃ (y : Nat), y ≤ N ∧ kk = .int .i64 (y : Int) ∧ OU wz 0 o (frB ts K m G vss x ++ colsB ts (granL G vss x) y) ∧ OS 2 wz p0 v7 (x + 1) (vcells ((placesV ts K m G vss).take (x + 1))) ∧ Hid (∀ b, o.ownBlock = some b → H b ∨ w6.heap.size ≤ b) ∧ Kp H w6 wz) (fun _ kk _ _ _ => N - (intOf kk).toNat)
          case atStart => exact ⟨0, by omega, rfl, by rw [colsB_zero, List.append_nil]; exact ou7, ho7, hno, hk7'⟩
          case round =>
            clear ou7 ho7 hno hk7'
            obtain ⟨y, hy, rfl, hoy, hos, hno, hk⟩ := hrel
            have tr := t6.kp hnb hHU.out hk
            obtain ⟨c0, c1, c2, c3⟩ := tr.sx
            by_cases hlty : y < N
            · have hyi : (y : Int) < (N : Int) := by omega
              have hyl : y < ts.length := by rw [hlt.out]; exact hlty
              have hvr := IV.kp hv6 hHU.out hk
              have hc := hk.cellU hHU.out hc6 ((sliceRep_nu [] rowRep_nu).no hu6)
              have hrr := NU.kp (sliceRep_nu [] rowRep_nu) hu6 hHU.out hk
              obtain ⟨_, _, _, hA, -, -, -, rs⟩ := hrr
              cases hA
              have rs := rs.rvs
              have hgl := rs.1
              obtain ⟨bt, offt, rfl, hct⟩ := IV.at hvr y hlty
              have hcol := HGO.out.1.colB HT.out HGl.out hyl
              have HNX := Lib.hid (colsB_next (g := granL G vss x) hyl)
              have hmost := colsB_most HGO.out.1 HT.out HGl.out y (by omega)
              have hlen : (frB ts K m G vss x ++ colsB ts (granL G vss x) y).length ≤ 128001 * 500015 + 64 * 122011 := by
                rw [List.length_append]
                have h1 := hfl.out x
                have h2 : y * 122011 ≤ 64 * 122011 := Nat.mul_le_mul_right _ (by omega)
                omega
              obtain ⟨t, hte⟩ : ∃ t, ts.getD y 0 = t := ⟨_, rfl⟩
              rw [hte] at hct hcol HNX
              obtain ⟨pre, hpre⟩ : ∃ pre, frB ts K m G vss x ++ colsB ts (granL G vss x) y = pre := ⟨_, rfl⟩
              rw [hpre] at hoy hlen
              have HPX : Hid (frB ts K m G vss x ++ colsB ts (granL G vss x) (y + 1) = pre ++ blockL t (colL (granL G vss x) (y : Int))) := by show _ = _; rw [HNX.out, ← List.append_assoc, hpre]
              have hL22 : L2 ≤ 2000 := by rw [← hgl]; exact HGl.out
              obtain ⟨cl, hcl⟩ : ∃ cl, colL (granL G vss x) (y : Int) = cl := ⟨_, rfl⟩
              have cc := racolumn_any A2 L2 C2 (granL G vss x) (y : Int) wr.drew (rs.below (Below.refl _ _).drew) (by omega)
              rw [hcl] at cc hcol HPX
              have hcb := Lib.hid hcol.1
              have hrg := Lib.hid hcol.2.1
              have hcll : cl.length ≤ 2000 := (colB_iff.1 hcol.1).2.1
              clear hmost hte HNX hpre hyl hcol hcl rs hvr
              go_wp2_with fail
              refine wp_region_noPanic ?_
              refine region_g 11 (Ext (World.drew _)) (by kernel_rfl) (Ext.refl _) (fun hS => ?_)
              refine take_w (i := 0) (v := ?_) (some 80) rfl (by kernel_rfl) rfl (fun _ _ _ h => h) (Or.inl ⟨by rfl, ?_⟩) hS ?_
              rotate_left
              · (intro wq hq; go_simp); first | done | with_reducible rfl
              try simp only [Act.put, List.setIfInBounds_toArray, List.set_cons_zero, List.set_cons_succ]
              replace hS := Till.list 0 hS
              refine take_w (i := 2) (v := ?_) (some 82) rfl (by kernel_rfl) rfl (fun _ _ _ h => h) (Or.inl ⟨by rfl, ?_⟩) hS ?_
              rotate_left
              · (intro wq hq; go_simp); first | done | with_reducible rfl
              try simp only [Act.put, List.setIfInBounds_toArray, List.set_cons_zero, List.set_cons_succ]
              replace hS := Till.list 2 hS
              refine take_w (i := 5) (v := ?_) (some 85) rfl (by kernel_rfl) rfl (fun _ _ _ h => h) (Or.inl ⟨by rfl, ?_⟩) hS ?_
              rotate_left
              · (intro wq hq; go_simp); first | done | with_reducible rfl
              try simp only [Act.put, List.setIfInBounds_toArray, List.set_cons_zero, List.set_cons_succ]
              replace hS := Till.list 5 hS
              refine take_w (i := 6) (v := ?_) (some 86) rfl (by kernel_rfl) rfl (fun _ _ _ h => h) (Or.inl ⟨by rfl, ?_⟩) hS ?_
              rotate_left
              · (intro wq hq; go_simp); first | done | with_reducible rfl
              try simp only [Act.put, List.setIfInBounds_toArray, List.set_cons_zero, List.set_cons_succ]
              replace hS := Till.list 6 hS
              refine take_w (i := 9) (v := ?_) (some 89) rfl (by kernel_rfl) rfl (fun _ _ _ h => h) (Or.inl ⟨by rfl, ?_⟩) hS ?_
              rotate_left
              · (intro wq hq; go_simp); first | done | with_reducible rfl
              try simp only [Act.put, List.setIfInBounds_toArray, List.set_cons_zero, List.set_cons_succ]
              replace hS := Till.list 9 hS
              refine take_g (i := 1) (v := ?_) [4, 3, 1] (some 81) rfl (by kernel_rfl) rfl (fun _ _ _ h => h) (Or.inl ⟨by rfl, ?_⟩) hS ?_
              rotate_left
              · (intro wq hq; have q0 := hq _ _ _ c0; have q1 := hq _ _ _ c1; have q2 := hq _ _ _ c2; have q3 := hq _ _ _ c3; have q4 := hq _ _ _ hc; have q5 := hq _ _ _ hct; go_simp); first | done | with_reducible rfl
              try simp only [Act.put, List.setIfInBounds_toArray, List.set_cons_zero, List.set_cons_succ]
              replace hS := Till.list 1 hS
              refine take_w (i := 7) (v := ?_) (some 87) rfl (by kernel_rfl) rfl (fun _ _ _ h => h) (Or.inl ⟨by rfl, ?_⟩) hS ?_
              rotate_left
              · (intro wq hq; go_simp); first | done | with_reducible rfl
              try simp only [Act.put, List.setIfInBounds_toArray, List.set_cons_zero, List.set_cons_succ]
              replace hS := Till.list 7 hS
              refine take_w (i := 3) (v := ?_) (some 83) rfl (by kernel_rfl) rfl (fun _ _ _ h => h) (Or.inl ⟨by rfl, ?_⟩) hS ?_
              rotate_left
              · (intro wq hq; go_simp); first | done | with_reducible rfl
              try simp only [Act.put, List.setIfInBounds_toArray, List.set_cons_zero, List.set_cons_succ]
              replace hS := Till.list 3 hS
              refine take_g (i := 8) (v := ?_) [10, 8] (some 88) rfl (by kernel_rfl) rfl (fun _ _ _ h => h) (Or.inl ⟨by rfl, ?_⟩) hS ?_
              rotate_left
              · (intro wq hq; have q0 := hq _ _ _ c0; have q1 := hq _ _ _ c1; have q2 := hq _ _ _ c2; have q3 := hq _ _ _ c3; have q4 := hq _ _ _ hc; have q5 := hq _ _ _ hct; go_simp); first | done | with_reducible rfl
              try simp only [Act.put, List.setIfInBounds_toArray, List.set_cons_zero, List.set_cons_succ]
              replace hS := Till.list 8 hS
              refine take_g (i := 4) (v := ?_) [4] (some 84) rfl (by kernel_rfl) rfl (fun _ _ _ h => h) (Or.inl ⟨by rfl, ?_⟩) hS ?_
              rotate_left
              · (intro wq hq; have q0 := hq _ _ _ c0; have q1 := hq _ _ _ c1; have q2 := hq _ _ _ c2; have q3 := hq _ _ _ c3; have q4 := hq _ _ _ hc; have q5 := hq _ _ _ hct; go_simp); first | done | with_reducible rfl
              try simp only [Act.put, List.setIfInBounds_toArray, List.set_cons_zero, List.set_cons_succ]
              replace hS := Till.list 4 hS
              refine ready_g (rs := [10]) (by kernel_rfl) (by simp) ?_
              refine AllReadyG.cons rfl (fun Kont hK => ?_) AllReadyG.nil
              go_simp
              refine cc.mono ?_
              rintro e w8 ⟨v8, rfl, o8, hb8⟩
              obtain ⟨a8, d8, rfl, -, -, cv8, -⟩ := o8.sv
              refine hK.out _ _ (Or.inr ((hS.get (by kernel_rfl)).trans (Ext.below hb8))) (fun hS0 => ?_)
              clear hK Kont
              try simp only [Act.put, List.setIfInBounds_toArray, List.set_cons_zero, List.set_cons_succ]
              clear hS
              have hS := hS0
              clear hS0
              refine ready_g (rs := [11]) (by kernel_rfl) (by simp) ?_
              refine AllReadyG.cons rfl (fun Kont hK => ?_) AllReadyG.nil
              go_simp
              refine (rput7_any t a8 _ d8 cl w8 cv8 hrg.out (by omega)).mono ?_
              rintro e w9 (⟨-, ⟨v9, rfl, o9⟩, hb9⟩ | ⟨hbad, -⟩)
              case inr => exact absurd hcb.out (by rw [hbad]; simp)
              have hbz := Below.then ((Below.refl wr.heap.size wr).drew.trans hb8) hb9
              have hfew := block_few hcb.out
              obtain ⟨LB, hLB⟩ : ∃ LB, (blockL t cl).length = LB := ⟨_, rfl⟩
              rw [hLB] at hfew
              obtain ⟨a9, d9, rfl, -, -, bv9, -⟩ := o9.bvn (block_byt hcb.out) LB hLB
              refine hK.out _ _ (Or.inl (by kernel_rfl)) (fun hS0 => ?_)
              clear hK Kont
              try simp only [Act.put, List.setIfInBounds_toArray, List.set_cons_zero, List.set_cons_succ]
              clear hS
              have hS := hS0
              clear hS0
              refine take_w (i := 12) (v := ?_) (some 79) rfl (by kernel_rfl) rfl (fun _ _ _ h => h) (Or.inl ⟨by rfl, ?_⟩) hS ?_
              rotate_left
              · (intro wq hq; go_simp); first | done | with_reducible rfl
              try simp only [Act.put, List.setIfInBounds_toArray, List.set_cons_zero, List.set_cons_succ]
              replace hS := Till.list 12 hS
              refine take_w (i := 13) (v := ?_) (some 92) rfl (by kernel_rfl) rfl (fun _ _ _ h => h) (Or.inl ⟨by rfl, ?_⟩) hS ?_
              rotate_left
              · (intro wq hq; go_simp); first | done | with_reducible rfl
              try simp only [Act.put, List.setIfInBounds_toArray, List.set_cons_zero, List.set_cons_succ]
              replace hS := Till.list 13 hS
              refine take_w (i := 14) (v := ?_) (some 93) rfl (by kernel_rfl) rfl (fun _ _ _ h => h) (Or.inl ⟨by rfl, ?_⟩) hS ?_
              rotate_left
              · (intro wq hq; go_simp); first | done | with_reducible rfl
              try simp only [Act.put, List.setIfInBounds_toArray, List.set_cons_zero, List.set_cons_succ]
              replace hS := Till.list 14 hS
              refine take_w (i := 15) (v := ?_) (some 14) rfl (by kernel_rfl) rfl (fun _ _ _ h => h) (Or.inl ⟨by rfl, ?_⟩) hS ?_
              rotate_left
              · (intro wq hq; go_simp); first | done | with_reducible rfl
              try simp only [Act.put, List.setIfInBounds_toArray, List.set_cons_zero, List.set_cons_succ]
              replace hS := Till.list 15 hS
              refine take_w (i := 16) (v := ?_) (some 15) rfl (by kernel_rfl) rfl (fun _ _ _ h => h) (Or.inl ⟨by rfl, ?_⟩) hS ?_
              rotate_left
              · (intro wq hq; go_simp); first | done | with_reducible rfl
              try simp only [Act.put, List.setIfInBounds_toArray, List.set_cons_zero, List.set_cons_succ]
              replace hS := Till.list 16 hS
              refine done_g (by kernel_rfl) (NoPanic.normal ?_) _
              clear hS
              have hoy9 := hoy.below hbz
              have hos9 := hos.below hbz
              have hk9 := hk.trans (Kp.of_new hbz)
              have HLB := Lib.hid hLB
              clear hoy hos hk hbz hb8 hb9 hLB cv8 o8 o9 c0 c1 c2 c3 hc hct cc tr
              go_wp2_with (at_builtin; refine append_ou rfl (.tmp 94) (.tmp 95) rfl 0 u9 pre rfl hoy9 a9 LB d9 _ rfl bv9 (by omega) (Nat.zero_le _) ?_; intro v10 w10 ho10 hb10 hk10 hst10)
              obtain ⟨hk11, hno11⟩ := Kp.app hk9 hno.out hb10 hk10 hst10
              have hos11 := hos9.same (w' := w10) (fun g hg hlt => hst10 g hlt (fun e => OS.ne8 hos9 (fun h => by omega) (hoy9.u8 g e) hg rfl))
              rw [← HPX.out] at ho10
              have HN11 := Lib.hid hno11
              clear hk10 hst10 hb10 hoy9 hos9 hk9 bv9 hno11
              go_roundw
              case rel => exact ⟨y + 1, by omega, by go_num, ho10, hos11, HN11, hk11⟩
              case measure => simp [intOf]; omega
            · have hyi : ¬ (y : Int) < (N : Int) := by omega
              obtain rfl : y = N := by omega
              have HA : Hid (colsB ts (granL G vss x) y = frsL (granD ts (granL G vss x))) := by show _ = _; rw [← hlt.out]; exact colsB_all ts _
              rw [HA.out, ← HFN.out] at hoy
              have hsep2 : Hid (∀ g, u9.ownBlock = some g → v7.ownBlock ≠ some g) := Lib.hid (fun g hg e => OS.ne8 hos (fun h => by omega) (hoy.u8 g hg) e rfl)
              go_wp2_with fail
              go_roundw
              case rel => exact ⟨x + 1, by omega, by go_num, hoy, hos, hno, HN7, hsep2, hk⟩
              case measure => simp [intOf]; omega
        · have hxi : ¬ (x : Int) < (q : Int) := by omega
          obtain rfl : x = q := by omega
          obtain ⟨ao, co, rfl, -, -, -, -⟩ := hox.ow.bvn (hby.out x) L hL
          have HLQ : Hid ((frB ts K m G vss (cntG G vss.length)).length = L) := by show _ = _; rw [hl.out, HQ.out]; exact hL
          have hq1 : 1 ≤ x := by have := (cnt_lt (i := 0) (n := j) (G := G) hG1).2 (by omega); rw [HQ.out] at this; exact this
          obtain ⟨c0, c1, c2, c3⟩ := tr.sx
          have hwr : Below w.heap.size w wr := hw6.trans (hk.below hHw.out hw6.size)
          have hlow : Hid (∀ b, (Value.slice ao L co).ownBlock = some b → w.heap.size ≤ b) := Lib.hid (fun b hb => by
            rcases hno.out b hb with h | h
            · exact hHw.out b h
            · have := hw6.size; omega)
          have hrr := RVs.kp (hr.below hw6) hHU.out hk
          have hvr := IV.kp hv6 hHU.out hk
          clear hL hno hnb2 hsep hk gr6
          go_wp2_with fail
          refine (ramarks_any A N C K m G R j c vss _ hrr (by omega) hG1 (by omega) (fun v hvm => by have := HP.out.rows.len v hvm; have := hlt.out; omega)).mono ?_
          rintro e w9 ⟨v9, rfl, om9, hb9⟩
          rw [HQ.out] at om9
          obtain ⟨A9, C9, rfl, rm9⟩ := om9.rvs
          have t9 := tr.below hb9
          have ox9 := hox.below hb9
          have hos9 := hos.below hb9
          have hv9 := SV.below hvr hb9
          have hw9 := Below.then hwr hb9
          have HMO := Lib.hid (marks_ok HP.out.rows (by rw [hlt.out]; exact hK2) hG1)
          have HTK : Hid (Ty (ts.take K)) := Lib.hid (fun y hy => HT.out y (List.mem_of_mem_take hy))
          have HML : Hid ((marksL G K vss).length = x) := by show _ = _; rw [marksL_len, hl.out, HQ.out]
          clear c0 c1 c2 c3 hrr hvr hb9 hox hos tr om9 hwr
          go_wp2_with fail
          go_loopw [9, 18, 19, 20] (fun o kk v14 v15 wz => ∃ (y : Nat), y ≤ K ∧ kk = .int .i64 (y : Int) ∧ OU wz 0 o (frB ts K m G vss x ++ colsB (ts.take K) (marksL G K vss) y) ∧ OS 2 wz p0 u10 x (vcells ((placesV ts K m G vss).take x)) ∧ Gr w9 wz (.slice ao L co) o) (fun _ kk _ _ _ => K - (intOf kk).toNat)
          case atStart => exact ⟨0, by omega, rfl, by rw [colsB_zero, List.append_nil]; exact ox9, hos9, Gr.refl _ _⟩
          case round =>
            obtain ⟨y, hy, rfl, hoy, hos, hgr⟩ := hrel
            have tr := t9.gr hnb ox9 hgr
            obtain ⟨c0, c1, c2, c3⟩ := tr.sx
            have hlenK : (ts.take K).length = K := by rw [List.length_take, hlt.out]; omega
            by_cases hlty : y < K
            · have hyi : (y : Int) < (K : Int) := by omega
              have hyl : y < (ts.take K).length := by rw [hlenK]; exact hlty
              have hvr := IV.gr hv9 ox9 hgr
              have rs := RVs.gr rm9 ox9 hgr
              obtain ⟨bt, offt, rfl, hct⟩ := IV.at hvr y (by omega)
              have hcol := HMO.out.colB HTK.out (by rw [HML.out]; omega) hyl
              have HNX := Lib.hid (colsB_next (g := marksL G K vss) hyl)
              have hmost := colsB_most HMO.out HTK.out (by rw [HML.out]; omega) y (by omega)
              have hlen : (frB ts K m G vss x ++ colsB (ts.take K) (marksL G K vss) y).length ≤ 128001 * 500015 + 64 * 122011 := by
                rw [List.length_append]
                have h1 := hfl.out x
                have h2 : y * 122011 ≤ 64 * 122011 := Nat.mul_le_mul_right _ (by omega)
                omega
              obtain ⟨t, hte⟩ : ∃ t, ts.getD y 0 = t := ⟨_, rfl⟩
              have hte2 : (ts.take K).getD y 0 = t := by rw [← hte, List.getD_eq_getElem?_getD, List.getElem?_take_of_lt hlty, ← List.getD_eq_getElem?_getD]
              rw [hte] at hct
              rw [hte2] at hcol HNX
              obtain ⟨pre, hpre⟩ : ∃ pre, frB ts K m G vss x ++ colsB (ts.take K) (marksL G K vss) y = pre := ⟨_, rfl⟩
              rw [hpre] at hoy hlen
              have HPX : Hid (frB ts K m G vss x ++ colsB (ts.take K) (marksL G K vss) (y + 1) = pre ++ blockL t (colL (marksL G K vss) (y : Int))) := by show _ = _; rw [HNX.out, ← List.append_assoc, hpre]
              obtain ⟨cl, hcl⟩ : ∃ cl, colL (marksL G K vss) (y : Int) = cl := ⟨_, rfl⟩
              have cc := racolumn_any A9 x C9 (marksL G K vss) (y : Int) wr.drew (rs.below (Below.refl _ _).drew) (by omega)
              rw [hcl] at cc hcol HPX
              have hcb := Lib.hid hcol.1
              have hrg := Lib.hid hcol.2.1
              have hcll : cl.length ≤ 2000 := (colB_iff.1 hcol.1).2.1
              have hyN : (y : Int) < (N : Int) := by omega
              clear hmost hte hte2 HNX hpre hyl hcol hcl rs hvr hlenK
              go_wp2_with fail
              refine wp_region_noPanic ?_
              refine region_g 8 (Ext (World.drew _)) (by kernel_rfl) (Ext.refl _) (fun hS => ?_)
              refine take_w (i := 0) (v := ?_) (some 109) rfl (by kernel_rfl) rfl (fun _ _ _ h => h) (Or.inl ⟨by rfl, ?_⟩) hS ?_
              rotate_left
              · (intro wq hq; go_simp); first | done | with_reducible rfl
              try simp only [Act.put, List.setIfInBounds_toArray, List.set_cons_zero, List.set_cons_succ]
              replace hS := Till.list 0 hS
              refine take_w (i := 2) (v := ?_) (some 111) rfl (by kernel_rfl) rfl (fun _ _ _ h => h) (Or.inl ⟨by rfl, ?_⟩) hS ?_
              rotate_left
              · (intro wq hq; go_simp); first | done | with_reducible rfl
              try simp only [Act.put, List.setIfInBounds_toArray, List.set_cons_zero, List.set_cons_succ]
              replace hS := Till.list 2 hS
              refine take_w (i := 5) (v := ?_) (some 114) rfl (by kernel_rfl) rfl (fun _ _ _ h => h) (Or.inl ⟨by rfl, ?_⟩) hS ?_
              rotate_left
              · (intro wq hq; go_simp); first | done | with_reducible rfl
              try simp only [Act.put, List.setIfInBounds_toArray, List.set_cons_zero, List.set_cons_succ]
              replace hS := Till.list 5 hS
              refine take_w (i := 6) (v := ?_) (some 115) rfl (by kernel_rfl) rfl (fun _ _ _ h => h) (Or.inl ⟨by rfl, ?_⟩) hS ?_
              rotate_left
              · (intro wq hq; go_simp); first | done | with_reducible rfl
              try simp only [Act.put, List.setIfInBounds_toArray, List.set_cons_zero, List.set_cons_succ]
              replace hS := Till.list 6 hS
              refine take_g (i := 1) (v := ?_) [4, 3, 1] (some 110) rfl (by kernel_rfl) rfl (fun _ _ _ h => h) (Or.inl ⟨by rfl, ?_⟩) hS ?_
              rotate_left
              · (intro wq hq; have q0 := hq _ _ _ c0; have q1 := hq _ _ _ c1; have q2 := hq _ _ _ c2; have q3 := hq _ _ _ c3; have q4 := hq _ _ _ hct; go_simp); first | done | with_reducible rfl
              try simp only [Act.put, List.setIfInBounds_toArray, List.set_cons_zero, List.set_cons_succ]
              replace hS := Till.list 1 hS
              refine take_w (i := 3) (v := ?_) (some 112) rfl (by kernel_rfl) rfl (fun _ _ _ h => h) (Or.inl ⟨by rfl, ?_⟩) hS ?_
              rotate_left
              · (intro wq hq; go_simp); first | done | with_reducible rfl
              try simp only [Act.put, List.setIfInBounds_toArray, List.set_cons_zero, List.set_cons_succ]
              replace hS := Till.list 3 hS
              refine take_g (i := 4) (v := ?_) [4] (some 113) rfl (by kernel_rfl) rfl (fun _ _ _ h => h) (Or.inl ⟨by rfl, ?_⟩) hS ?_
              rotate_left
              · (intro wq hq; have q0 := hq _ _ _ c0; have q1 := hq _ _ _ c1; have q2 := hq _ _ _ c2; have q3 := hq _ _ _ c3; have q4 := hq _ _ _ hct; go_simp); first | done | with_reducible rfl
              try simp only [Act.put, List.setIfInBounds_toArray, List.set_cons_zero, List.set_cons_succ]
              replace hS := Till.list 4 hS
              refine ready_g (rs := [7]) (by kernel_rfl) (by simp) ?_
              refine AllReadyG.cons rfl (fun Kont hK => ?_) AllReadyG.nil
              go_simp
              refine cc.mono ?_
              rintro e w10 ⟨v10, rfl, o10, hb10⟩
              obtain ⟨a10, d10, rfl, -, -, cv10, -⟩ := o10.sv
              refine hK.out _ _ (Or.inr ((hS.get (by kernel_rfl)).trans (Ext.below hb10))) (fun hS0 => ?_)
              clear hK Kont
              try simp only [Act.put, List.setIfInBounds_toArray, List.set_cons_zero, List.set_cons_succ]
              clear hS
              have hS := hS0
              clear hS0
              refine ready_g (rs := [8]) (by kernel_rfl) (by simp) ?_
              refine AllReadyG.cons rfl (fun Kont hK => ?_) AllReadyG.nil
              go_simp
              refine (rput7_any t a10 _ d10 cl w10 cv10 hrg.out (by omega)).mono ?_
              rintro e w11 (⟨-, ⟨v11, rfl, o11⟩, hb11⟩ | ⟨hbad, -⟩)
              case inr => exact absurd hcb.out (by rw [hbad]; simp)
              have hbz := Below.then ((Below.refl wr.heap.size wr).drew.trans hb10) hb11
              have hfew := block_few hcb.out
              obtain ⟨LB, hLB⟩ : ∃ LB, (blockL t cl).length = LB := ⟨_, rfl⟩
              rw [hLB] at hfew
              obtain ⟨a11, d11, rfl, -, -, bv11, -⟩ := o11.bvn (block_byt hcb.out) LB hLB
              refine hK.out _ _ (Or.inl (by kernel_rfl)) (fun hS0 => ?_)
              clear hK Kont
              try simp only [Act.put, List.setIfInBounds_toArray, List.set_cons_zero, List.set_cons_succ]
              clear hS
              have hS := hS0
              clear hS0
              refine take_w (i := 9) (v := ?_) (some 108) rfl (by kernel_rfl) rfl (fun _ _ _ h => h) (Or.inl ⟨by rfl, ?_⟩) hS ?_
              rotate_left
              · (intro wq hq; go_simp); first | done | with_reducible rfl
              try simp only [Act.put, List.setIfInBounds_toArray, List.set_cons_zero, List.set_cons_succ]
              replace hS := Till.list 9 hS
              refine take_w (i := 10) (v := ?_) (some 118) rfl (by kernel_rfl) rfl (fun _ _ _ h => h) (Or.inl ⟨by rfl, ?_⟩) hS ?_
              rotate_left
              · (intro wq hq; go_simp); first | done | with_reducible rfl
              try simp only [Act.put, List.setIfInBounds_toArray, List.set_cons_zero, List.set_cons_succ]
              replace hS := Till.list 10 hS
              refine take_w (i := 11) (v := ?_) (some 119) rfl (by kernel_rfl) rfl (fun _ _ _ h => h) (Or.inl ⟨by rfl, ?_⟩) hS ?_
              rotate_left
              · (intro wq hq; go_simp); first | done | with_reducible rfl
              try simp only [Act.put, List.setIfInBounds_toArray, List.set_cons_zero, List.set_cons_succ]
              replace hS := Till.list 11 hS
              refine take_w (i := 12) (v := ?_) (some 19) rfl (by kernel_rfl) rfl (fun _ _ _ h => h) (Or.inl ⟨by rfl, ?_⟩) hS ?_
              rotate_left
              · (intro wq hq; go_simp); first | done | with_reducible rfl
              try simp only [Act.put, List.setIfInBounds_toArray, List.set_cons_zero, List.set_cons_succ]
              replace hS := Till.list 12 hS
              refine take_w (i := 13) (v := ?_) (some 20) rfl (by kernel_rfl) rfl (fun _ _ _ h => h) (Or.inl ⟨by rfl, ?_⟩) hS ?_
              rotate_left
              · (intro wq hq; go_simp); first | done | with_reducible rfl
              try simp only [Act.put, List.setIfInBounds_toArray, List.set_cons_zero, List.set_cons_succ]
              replace hS := Till.list 13 hS
              refine done_g (by kernel_rfl) (NoPanic.normal ?_) _
              clear hS
              have hoy11 := hoy.below hbz
              have hos11 := hos.below hbz
              have hg11 := hgr.new hbz
              have HLB := Lib.hid hLB
              clear hoy hos hgr hbz hb10 hb11 hLB cv10 o10 o11 c0 c1 c2 c3 hct cc tr
              go_wp2_with (at_builtin; refine append_ou rfl (.tmp 120) (.tmp 121) rfl 0 u9 pre rfl hoy11 a11 LB d11 _ rfl bv11 (by omega) (Nat.zero_le _) ?_; intro v12 w12 ho12 hb12 hk12 hst12)
              have hos12 := hos11.same (w' := w12) (fun g hg hlt => hst12 g hlt (fun e => OS.ne8 hos11 (fun h => by omega) (hoy11.u8 g e) hg rfl))
              have hg12 := hg11.trans (Gr.of hb12 hk12 hst12)
              rw [← HPX.out] at ho12
              clear hk12 hst12 hb12 hoy11 hos11 hg11 bv11
              go_roundw
              case rel => exact ⟨y + 1, by omega, by go_num, ho12, hos12, hg12⟩
              case measure => simp [intOf]; omega
            · have hyi : ¬ (y : Int) < (K : Int) := by omega
              obtain rfl : y = K := by omega
              have HA : Hid (colsB (ts.take y) (marksL G y vss) y = frsL (granD (ts.take y) (marksL G y vss))) := by
                show _ = _
                have := colsB_all (ts.take y) (marksL G y vss)
                rw [hlenK] at this
                exact this
              rw [HA.out] at hoy
              obtain ⟨ab, cb, rfl, -, -, svb, -⟩ := hos.sv
              rw [List.take_of_length_le (by unfold placesV; rw [List.length_map, List.length_range, hl.out, HQ.out]; exact Nat.le_refl _)] at svb
              have hpl := HP.out.places
              have hlen10 : (frB ts y m G vss x ++ frsL (granD (ts.take y) (marksL G y vss))).length ≤ 64002420015 + 10000000 := by
                rw [List.length_append]
                have h1 := hfl.out x
                have h2 := gran_most HMO.out HTK.out (by rw [HML.out]; omega)
                rw [hlenK, HML.out] at h2
                have h3 : y * (61 * x + 11) ≤ 64 * 122011 := Nat.mul_le_mul (by omega) (by omega)
                omega
              have HPL := Lib.hid hpl
              have HPF := Lib.hid (block_few hpl.1)
              obtain ⟨LB, hLB⟩ : ∃ LB, (blockL 2 (placesV ts y m G vss)).length = LB := ⟨_, rfl⟩
              have hLBm := block_few hpl.1
              rw [hLB] at hLBm
              have HLB := Lib.hid hLB
              obtain ⟨pre, hpre⟩ : ∃ pre, frB ts y m G vss x ++ frsL (granD (ts.take y) (marksL G y vss)) = pre := ⟨_, rfl⟩
              rw [hpre] at hoy hlen10
              have HPRE := Lib.hid hpre
              clear hpre hLB hpl hos tr hlenK
              go_wp2_with fail
              refine (rput7_any 2 ab x cb _ _ svb HPL.out.2 (by omega)).mono ?_
              rintro e w10 (⟨-, ⟨v10, rfl, o10⟩, hb10⟩ | ⟨hbad, -⟩)
              case inr => exact absurd HPL.out.1 (by rw [hbad]; simp)
              obtain ⟨a10, d10, rfl, -, -, bv10, -⟩ := o10.bvn (block_byt HPL.out.1) LB HLB.out
              have hoy10 := hoy.below hb10
              have hg10 := hgr.new hb10
              have hLu : IntKind.u64.wrap (L : Int) = (L : Int) := by rw [IntKind.wrap_u64]; omega
              clear hoy hgr hb10 svb o10
              go_wp2_with (at_builtin; refine append_ou rfl (.tmp 128) (.tmp 129) rfl 0 u9 pre rfl hoy10 a10 LB d10 _ rfl bv10 (by omega) (Nat.zero_le _) ?_; intro v11 w11 ou11 hb11 hk11 hst11)
              have hg11 := hg10.trans (Gr.of hb11 hk11 hst11)
              have HLQ2 : Hid ((pre ++ blockL 2 (placesV ts y m G vss)) ++ w8 (L : Int) = partL ts y m G vss) := by
                show _ = _
                rw [← HPRE.out, ← HLQ.out, ← partL_is (by rw [hlt.out]; exact hK2), hl.out, HQ.out]
              have hlen11 : (pre ++ blockL 2 (placesV ts y m G vss)).length ≤ 64002420015 + 10122011 := by rw [List.length_append, HLB.out]; omega
              obtain ⟨pr2, hpr2⟩ : ∃ pr2, pre ++ blockL 2 (placesV ts y m G vss) = pr2 := ⟨_, rfl⟩
              rw [hpr2] at ou11 hlen11 HLQ2
              clear hpr2 hoy10 hg10 hb11 hk11 hst11 bv10 HPRE
              refine (rput64_any (L : Int) _ (by omega) (by omega)).mono ?_
              rintro e w12 ⟨v12, rfl, o12, hb12⟩
              obtain ⟨a12, d12, rfl, -, -, bv12, -⟩ := o12.ow.bvn (w8_bytes _) 8 rfl
              have ou12 := ou11.below hb12
              have hg12 := hg11.new hb12
              clear ou11 hg11 hb12 o12
              go_wp2_with (at_builtin; refine append_ou rfl (.tmp 130) (.tmp 133) rfl 0 v11 pr2 rfl ou12 a12 8 d12 (w8 (L : Int)) rfl bv12 (by omega) (Nat.zero_le _) ?_; intro v13 w13 ou13 hb13 hk13 hs13)
              have hg13 := hg12.trans (Gr.of hb13 hk13 hs13)
              rw [HLQ2.out] at ou13
              go_ret2
              refine .inl ⟨HE0.out, _, rfl, ?_, hw9.trans (hg13.below hlow.out hw9.size)⟩
              rw [Int.toNat_natCast, Int.toNat_natCast]
              exact hg13.rise hlow.out hw9.size ou13
end Go.Proofs.YtbfihajgjbpmaaaGreat
