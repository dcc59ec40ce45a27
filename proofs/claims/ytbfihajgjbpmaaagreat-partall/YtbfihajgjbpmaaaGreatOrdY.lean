/- Texts that belong together, one behind the other: Q9y, Q9h. -/
import Derived.Test.YtbfihajgjbpmaaaGreatOrdX
import Derived.Test.YtbfihajgjbpmaaaGreatBase
import Derived.Test.YtbfihajgjbpmaaaGreatSchB
import Derived.Test.YtbfihajgjbpmaaaGreatSchC
/- Contracts of how order compares rows. -/
namespace Go.Proofs.YtbfihajgjbpmaaaGreat
open Go.ChangeShapes Go.WideShapes Go.ChangeAt Go.RowKit
set_option linter.unusedVariables false
set_option maxRecDepth 4000

set_option maxHeartbeats 1000000 in
theorem by1_any (sb : Nat) (A : Option Addr) (N C : Nat) (ts : List Int) (K : Nat) (m gg : Int) (R1 : Option Addr) (n1 c1 : Nat) (u1 : RowV) (R2 : Option Addr) (n2 c2 : Nat) (u2 : RowV) (w : World) (hx : Sx w sb A N C K m gg)
    (hv : IV w A N ts) (hN : N ≤ maxLen) (ha : WV w R1 n1 u1) (hna : n1 ≤ maxLen) (hb : WV w R2 n2 u2) (hnb : n2 ≤ maxLen) (hK : K ≤ maxLen) :
    Calls Tryz.prog 101 #[.slice R1 n1 c1, .slice R2 n2 c2, .pointer (some ⟨sb, 0, none⟩)] w fun e w' => e = .returned (.int .i64 (cR (ts.take K) u1 u2)) ∧ Below w.heap.size w w' := by
  obtain ⟨x0, x1, x2, x3⟩ := hx
  obtain ⟨q, hq⟩ : ∃ q, cR (ts.take K) u1 u2 = q := ⟨_, rfl⟩
  rw [hq]
  have HQ := Lib.hid hq
  clear hq
  go_enter Tryz.func101, Tryz.ntmps101
  go_wp2_with fail
  refine (scompare_any A N C ts K m gg R1 n1 c1 u1 R2 n2 c2 u2 _ hv hN ha hna hb hnb hK).mono ?_
  rw [HQ.out]
  rintro e w1 ⟨rfl, h⟩
  go_wp2_with fail
  go_ret
  exact ⟨rfl, h⟩
theorem oby_any (A : Option Addr) (N C : Nat) (K : Nat) (m gg : Int) (w : World) :
    Calls Tryz.prog 85 #[SS A N C K m gg] w fun e w' => e = .returned (FV (.pointer (some ⟨w.heap.size, 0, none⟩))) ∧ w' = w.alloc (.cells #[.slice A N C, .int .i64 K, .int .i64 m, .int .i64 gg] 24) := by
  go_enter Tryz.func85, Tryz.ntmps85
  go_wp2_with fail
  go_ret
  exact ⟨rfl, rfl⟩
end Go.Proofs.YtbfihajgjbpmaaaGreat
/- Contract of order.Sorted. -/
namespace Go.Proofs.YtbfihajgjbpmaaaGreat
open Go.ChangeShapes Go.WideShapes Go.ChangeAt Go.RowKit
set_option linter.unusedVariables false
set_option maxRecDepth 4000

set_option maxHeartbeats 1000000 in
theorem issorted_any (sb : Nat) (A : Option Addr) (N C : Nat) (ts : List Int) (K : Nat) (m gg : Int) (R : Option Addr) (n c : Nat) (vss : List RowV) (w : World) (hx : Sx w sb A N C K m gg) (hv : IV w A N ts) (hN : N ≤ maxLen) (hK : K ≤ maxLen) (ht : Ty ts) (hr : RVs w R n vss) (hn : n ≤ 1000000) (hF : ∀ v ∈ vss, FR ts v) :
    Calls Tryz.prog 84 #[.slice R n c, FV (.pointer (some ⟨sb, 0, none⟩))] w fun en w' => en = .returned (.bool (srtB (cN ts K) [] vss)) ∧ Below w.heap.size w w' := by
  have hl := Lib.hid hr.1
  have HF := Lib.hid hF
  clear hF
  by_cases h0 : n = 0
  · subst h0
    have w1 : IntKind.i64.wrap ((0 : Int) - 1) = -1 := by rw [IntKind.wrap_i64]; omega
    have HT : Hid (srtB (cN ts K) [] vss = true) := SrtP.all (fun i h1 h2 => by have := hl.out; omega)
    go_enter Tryz.func84, Tryz.ntmps84
    go_wp2_with fail
    go_loopw [5] (fun vi wr => vi = .int .i64 (-1) ∧ wr = w) (fun _ _ => 0)
    case atStart => exact ⟨rfl, rfl⟩
    case round =>
      obtain ⟨rfl, rfl⟩ := hrel
      go_wp2_with fail
      go_ret
      exact ⟨by rw [HT.out]; rfl, Below.refl _ _⟩
  · obtain ⟨p0, hp0⟩ : ∃ p, n - 1 = p := ⟨_, rfl⟩
    have w1 : IntKind.i64.wrap ((n : Int) - 1) = (p0 : Int) := by rw [IntKind.wrap_i64]; omega
    have hpn : p0 < n := by omega
    have HS : Hid (SrtP (cN ts K) vss p0) := fun i h1 h2 => by have := hl.out; omega
    clear hp0
    go_enter Tryz.func84, Tryz.ntmps84
    go_wp2_with fail
    clear w1
    go_loopw [5] (fun vi wr => ∃ p : Nat, vi = .int .i64 (p : Int) ∧ p < n ∧ Hid (SrtP (cN ts K) vss p) ∧ Below w.heap.size w wr) (fun vi _ => (intOf vi).toNat)
    case atStart => exact ⟨p0, rfl, hpn, HS, Below.refl _ _⟩
    case round =>
      clear HS hpn
      obtain ⟨p, rfl, hp, HS, hbw⟩ := hrel
      by_cases hpp : 0 < p
      · have hpi : (0 : Int) < (p : Int) := by omega
        obtain ⟨q, hq⟩ : ∃ q, p - 1 = q := ⟨_, rfl⟩
        have w1 : IntKind.i64.wrap ((p : Int) - 1) = (q : Int) := by rw [IntKind.wrap_i64]; omega
        have hqn : q < n := by omega
        have hqp : p = q + 1 := by omega
        obtain ⟨b, off, A1, L1, C1, rfl, hc1, hL1, hw1⟩ := hr.at p hp
        obtain ⟨_, _, A2, L2, C2, e', hc2, hL2, hw2⟩ := hr.at q hqn
        cases e'
        have hc1 := keepc hc1 hbw
        have hc2 := keepc hc2 hbw
        have cc := by1_any sb A N C ts K m gg A1 L1 C1 _ A2 L2 C2 _ wr.drew (hx.below hbw.drew) (hv.below hbw.drew) hN (hw1.below hbw.drew) hL1 (hw2.below hbw.drew) hL2 hK
        have f1 := fr_at HF.out (i := p) (by rw [hl.out]; exact hp)
        have f2 := fr_at HF.out (i := q) (by rw [hl.out]; exact hqn)
        rw [← cN_ok K f1 f2] at cc
        obtain ⟨r, hcr⟩ : ∃ r, cN ts K (vss.getD p []) (vss.getD q []) = r := ⟨_, rfl⟩
        have hneg := (cN_ord ht K).neg (vss.getD p []) (vss.getD q [])
        rw [hcr] at cc hneg
        rw [hqp] at hneg
        have HR : Hid (cN ts K (vss.getD q []) (vss.getD (q + 1) []) = -r) := hneg
        have HQ := Lib.hid hqp
        clear hcr hneg f1 f2 hw1 hw2 hq hqp
        go_wp2_with fail
        refine wp_region_noPanic ?_
        refine region_g 10 (Ext (World.drew _)) (by kernel_rfl) (Ext.refl _) (fun hS => ?_)
        refine take_w (i := 0) (v := ?_) (some 13) rfl (by kernel_rfl) rfl (fun _ _ _ h => h) (Or.inl ⟨by rfl, ?_⟩) hS ?_
        rotate_left
        · (intro wq hq; go_simp); first | done | with_reducible rfl
        try simp only [Act.put, List.setIfInBounds_toArray, List.set_cons_zero, List.set_cons_succ]
        replace hS := Till.list 0 hS
        refine take_w (i := 1) (v := ?_) (some 14) rfl (by kernel_rfl) rfl (fun _ _ _ h => h) (Or.inl ⟨by rfl, ?_⟩) hS ?_
        rotate_left
        · (intro wq hq; go_simp); first | done | with_reducible rfl
        try simp only [Act.put, List.setIfInBounds_toArray, List.set_cons_zero, List.set_cons_succ]
        replace hS := Till.list 1 hS
        refine take_w (i := 2) (v := ?_) (some 15) rfl (by kernel_rfl) rfl (fun _ _ _ h => h) (Or.inl ⟨by rfl, ?_⟩) hS ?_
        rotate_left
        · (intro wq hq; go_simp); first | done | with_reducible rfl
        try simp only [Act.put, List.setIfInBounds_toArray, List.set_cons_zero, List.set_cons_succ]
        replace hS := Till.list 2 hS
        refine take_w (i := 5) (v := ?_) (some 18) rfl (by kernel_rfl) rfl (fun _ _ _ h => h) (Or.inl ⟨by rfl, ?_⟩) hS ?_
        rotate_left
        · (intro wq hq; go_simp); first | done | with_reducible rfl
        try simp only [Act.put, List.setIfInBounds_toArray, List.set_cons_zero, List.set_cons_succ]
        replace hS := Till.list 5 hS
        refine take_w (i := 6) (v := ?_) (some 19) rfl (by kernel_rfl) rfl (fun _ _ _ h => h) (Or.inl ⟨by rfl, ?_⟩) hS ?_
        rotate_left
        · (intro wq hq; go_simp); first | done | with_reducible rfl
        try simp only [Act.put, List.setIfInBounds_toArray, List.set_cons_zero, List.set_cons_succ]
        replace hS := Till.list 6 hS
        refine take_w (i := 3) (v := ?_) (some 16) rfl (by kernel_rfl) rfl (fun _ _ _ h => h) (Or.inl ⟨by rfl, ?_⟩) hS ?_
        rotate_left
        · (intro wq hq; go_simp); first | done | with_reducible rfl
        try simp only [Act.put, List.setIfInBounds_toArray, List.set_cons_zero, List.set_cons_succ]
        replace hS := Till.list 3 hS
        refine take_w (i := 7) (v := ?_) (some 20) rfl (by kernel_rfl) rfl (fun _ _ _ h => h) (Or.inl ⟨by rfl, ?_⟩) hS ?_
        rotate_left
        · (intro wq hq; go_simp); first | done | with_reducible rfl
        try simp only [Act.put, List.setIfInBounds_toArray, List.set_cons_zero, List.set_cons_succ]
        replace hS := Till.list 7 hS
        refine take_g (i := 4) (v := ?_) [4] (some 17) rfl (by kernel_rfl) rfl (fun _ _ _ h => h) (Or.inl ⟨by rfl, ?_⟩) hS ?_
        rotate_left
        · (intro wq hq; have q0 := hq _ _ _ hc1; have q1 := hq _ _ _ hc2; go_simp); first | done | with_reducible rfl
        try simp only [Act.put, List.setIfInBounds_toArray, List.set_cons_zero, List.set_cons_succ]
        replace hS := Till.list 4 hS
        refine take_w (i := 8) (v := ?_) (some 21) rfl (by kernel_rfl) rfl (fun _ _ _ h => h) (Or.inl ⟨by rfl, ?_⟩) hS ?_
        rotate_left
        · (intro wq hq; go_simp); first | done | with_reducible rfl
        try simp only [Act.put, List.setIfInBounds_toArray, List.set_cons_zero, List.set_cons_succ]
        replace hS := Till.list 8 hS
        refine take_g (i := 9) (v := ?_) [9] (some 22) rfl (by kernel_rfl) rfl (fun _ _ _ h => h) (Or.inl ⟨by rfl, ?_⟩) hS ?_
        rotate_left
        · (intro wq hq; have q0 := hq _ _ _ hc1; have q1 := hq _ _ _ hc2; go_simp); first | done | with_reducible rfl
        try simp only [Act.put, List.setIfInBounds_toArray, List.set_cons_zero, List.set_cons_succ]
        replace hS := Till.list 9 hS
        refine ready_g (rs := [10]) (by kernel_rfl) (by simp) ?_
        refine AllReadyG.cons rfl (fun Kont hK => ?_) AllReadyG.nil
        go_simp
        refine cc.mono ?_
        rintro en w' ⟨rfl, hb'⟩
        refine hK.out _ _ (Or.inl (by kernel_rfl)) (fun hS0 => ?_)
        clear hK Kont
        try simp only [Act.put, List.setIfInBounds_toArray, List.set_cons_zero, List.set_cons_succ]
        clear hS
        have hS := hS0
        clear hS0
        refine take_w (i := 11) (v := ?_) (some 24) rfl (by kernel_rfl) rfl (fun _ _ _ h => h) (Or.inl ⟨by rfl, ?_⟩) hS ?_
        rotate_left
        · (intro wq hq; go_simp); first | done | with_reducible rfl
        try simp only [Act.put, List.setIfInBounds_toArray, List.set_cons_zero, List.set_cons_succ]
        replace hS := Till.list 11 hS
        refine done_g (by kernel_rfl) (NoPanic.normal ?_) _
        clear hS
        have hb2 := Below.then hbw.drew hb'
        clear hb' hbw cc hc1 hc2
        cases hd : decide (r < 0)
        · have hr0 := of_decide_eq_false hd
          have HS2 : Hid (SrtP (cN ts K) vss q) := SrtP.step (by rw [← HQ.out]; exact HS.out) (by rw [HR.out]; omega)
          clear hd hr0
          go_wp2_with fail
          go_roundw
          case rel => exact ⟨q, rfl, hqn, HS2, hb2⟩
          case measure => have := HQ.out; simp [intOf]; omega
        · have hr0 := of_decide_eq_true hd
          have HT : Hid (srtB (cN ts K) [] vss = false) := SrtP.not (j := q) (by rw [HR.out]; omega) (by have := HQ.out; rw [hl.out]; omega)
          clear hd hr0
          go_wp2_with fail
          go_ret
          exact ⟨by rw [HT.out]; rfl, hb2⟩
      · have hpi : ¬ (0 : Int) < (p : Int) := by omega
        obtain rfl : p = 0 := by omega
        have HT := Lib.hid (SrtP.all HS.out)
        go_wp2_with fail
        go_ret
        exact ⟨by rw [HT.out]; rfl, hbw⟩
set_option maxHeartbeats 1000000 in
theorem osorted_any (A : Option Addr) (N C : Nat) (ts : List Int) (K : Nat) (m gg : Int) (R : Option Addr) (n c : Nat) (vss : List RowV) (w : World) (hv : IV w A N ts) (hN : N ≤ maxLen) (hK : K ≤ maxLen) (ht : Ty ts) (hr : RVs w R n vss) (hn : n ≤ 1000000) (hF : ∀ v ∈ vss, FR ts v) :
    Calls Tryz.prog 54 #[SS A N C K m gg, .slice R n c] w fun en w' => en = .returned (.bool (srtB (cN ts K) [] vss)) ∧ Below w.heap.size w w' := by
  obtain ⟨x0, x1, x2, x3⟩ := Sx.new w A N C K m gg 24
  obtain ⟨q, hq⟩ : ∃ q, srtB (cN ts K) [] vss = q := ⟨_, rfl⟩
  rw [hq]
  have HQ := Lib.hid hq
  clear hq
  go_enter Tryz.func54, Tryz.ntmps54
  go_wp2_with fail
  refine (oby_any A N C K m gg _).mono ?_
  rintro en w2 ⟨rfl, rfl⟩
  have hx2 := Sx.new (w.alloc (.cells #[.slice A N C, .int .i64 K, .int .i64 m, .int .i64 gg] 24)) A N C K m gg 24
  have hb2 := Joins.below_alloc2 w (.cells #[.slice A N C, .int .i64 K, .int .i64 m, .int .i64 gg] 24) (.cells #[.slice A N C, .int .i64 K, .int .i64 m, .int .i64 gg] 24)
  go_wp2_with fail
  rw [heap_alloc] at hx2
  refine (issorted_any _ A N C ts K m gg R n c vss _ hx2 (hv.below hb2) hN hK ht (hr.below hb2) hn hF).mono ?_
  rw [HQ.out]
  rintro en w3 ⟨rfl, hb3⟩
  go_wp2_with fail
  go_ret
  exact ⟨rfl, Below.then hb2 hb3⟩
end Go.Proofs.YtbfihajgjbpmaaaGreat
