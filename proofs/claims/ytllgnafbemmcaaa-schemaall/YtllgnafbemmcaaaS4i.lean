/- SchemaOrders: the walk. -/
import Derived.Test.YtllgnafbemmcaaaS4h
namespace Go.Proofs.Ytllgnafbemmcaaa
open Go.ChangeShapes Go.WideShapes Go.ChangeAt Go.RowKit
set_option linter.unusedVariables false

theorem few_max {n : Nat} (h : n ≤ 1000000) : n ≤ maxLen := by unfold maxLen; omega
/-- a schema that may be was made -/
def MadeG (w w' : World) (e : Ending) : Prop :=
  ∃ (A : Option Addr) (N C K : Nat) (m g : Int) (ts : List Int), e = .returned (SS A N C K m g) ∧ checkB ts (K : Int) m g = true ∧ N ≤ 8 ∧ OS 1 w' w.heap.size (.slice A N C) N (icells ts) ∧ Below w.heap.size w w'
theorem MadeE.good {w w' : World} {ls : List Int} {n keys mode grain : Int} {e : Ending} (h : MadeE w w' ls n keys mode grain e) (hls : ls.length = 8) (hn : 0 ≤ n) (hk : 0 ≤ keys) (hm : 0 ≤ mode) (hg : 0 ≤ grain) : MadeG w w' e := by
  obtain ⟨A, C, rfl, ho, hb⟩ := h
  have h1 : 0 ≤ keys % (1 + n % 8) := Int.emod_nonneg _ (by omega)
  have h2 : keys % (1 + n % 8) < 1 + n % 8 := Int.emod_lt_of_pos _ (by omega)
  have hlen := madeT_len ls (1 + n % 8).toNat (by omega)
  refine ⟨A, (1 + n % 8).toNat, C, (1 + keys % (1 + n % 8)).toNat, 1 + mode % 3, 1 + grain % 8, madeT ls (1 + n % 8).toNat, ?_, ?_, by omega, ho, hb⟩
  · rw [Int.toNat_of_nonneg (by omega)]
  · refine decide_eq_true ?_
    rw [hlen, Int.toNat_of_nonneg (a := 1 + keys % (1 + n % 8)) (by omega), Int.toNat_of_nonneg (a := 1 + n % 8) (by omega)]
    exact ⟨by omega, by omega, by omega, by omega, by omega, by omega, by omega, by omega, madeT_mem⟩
theorem MadeG.keys {ts : List Int} {K : Nat} {m g : Int} (h : checkB ts (K : Int) m g = true) : 1 ≤ K ∧ K ≤ ts.length ∧ ts.length ≤ 64 := by
  have := check_is h; omega
/-- numbers of one byte each -/
abbrev ShW (l0 l1 l2 l3 l4 l5 l6 l7 n keys mode grain : Int) : Prop := U8s [l0, l1, l2, l3, l4, l5, l6, l7] ∧ (0 ≤ n ∧ n ≤ 255) ∧ (0 ≤ keys ∧ keys ≤ 255) ∧ (0 ≤ mode ∧ mode ≤ 255) ∧ (0 ≤ grain ∧ grain ≤ 255)
theorem made_good {l0 l1 l2 l3 l4 l5 l6 l7 n keys mode grain : Int} (h : ShW l0 l1 l2 l3 l4 l5 l6 l7 n keys mode grain) (w : World) : Calls Try.prog 23 #[ShV l0 l1 l2 l3 l4 l5 l6 l7 n keys mode grain] w fun e w' => MadeG w w' e :=
  (made_any l0 l1 l2 l3 l4 l5 l6 l7 n keys mode grain w h.1 h.2.1 h.2.2.1 h.2.2.2.1 h.2.2.2.2).mono fun e w' he => he.good rfl h.2.1.1 h.2.2.1.1 h.2.2.2.1.1 h.2.2.2.2.1
/-- the cells of a shape -/
abbrev shC (l0 l1 l2 l3 l4 l5 l6 l7 n keys mode grain : Int) : Array Value := #[.int .u8 l0, .int .u8 l1, .int .u8 l2, .int .u8 l3, .int .u8 l4, .int .u8 l5, .int .u8 l6, .int .u8 l7, .int .u8 n, .int .u8 keys, .int .u8 mode, .int .u8 grain]
theorem Bk.shape {w : World} {b : Nat} {T : TypeId} {l0 l1 l2 l3 l4 l5 l6 l7 n keys mode grain : Int} (h : Bk w b (shC l0 l1 l2 l3 l4 l5 l6 l7 n keys mode grain) T) :
    (w.cell? ⟨b, 0, none⟩ = some (.int .u8 l0) ∧ w.cell? ⟨b, 1, none⟩ = some (.int .u8 l1) ∧ w.cell? ⟨b, 2, none⟩ = some (.int .u8 l2) ∧ w.cell? ⟨b, 3, none⟩ = some (.int .u8 l3)) ∧
    (w.cell? ⟨b, 4, none⟩ = some (.int .u8 l4) ∧ w.cell? ⟨b, 5, none⟩ = some (.int .u8 l5) ∧ w.cell? ⟨b, 6, none⟩ = some (.int .u8 l6) ∧ w.cell? ⟨b, 7, none⟩ = some (.int .u8 l7)) ∧
    (w.cell? ⟨b, 8, none⟩ = some (.int .u8 n) ∧ w.cell? ⟨b, 9, none⟩ = some (.int .u8 keys) ∧ w.cell? ⟨b, 10, none⟩ = some (.int .u8 mode) ∧ w.cell? ⟨b, 11, none⟩ = some (.int .u8 grain)) :=
  ⟨⟨h.cell 0 rfl, h.cell 1 rfl, h.cell 2 rfl, h.cell 3 rfl⟩, ⟨h.cell 4 rfl, h.cell 5 rfl, h.cell 6 rfl, h.cell 7 rfl⟩, ⟨h.cell 8 rfl, h.cell 9 rfl, h.cell 10 rfl, h.cell 11 rfl⟩⟩
set_option maxHeartbeats 4000000 in
theorem orders_is {l0 l1 l2 l3 l4 l5 l6 l7 n keys mode grain : Int} (h : ShW l0 l1 l2 l3 l4 l5 l6 l7 n keys mode grain) (Ra : Option Addr) (na ca : Nat) (va : List (Int × ByteArray)) (Rb : Option Addr) (nb cb : Nat) (vb : List (Int × ByteArray)) (w : World)
    (ha : WV w Ra na va) (hna : na ≤ maxLen) (hb : WV w Rb nb vb) (hnb : nb ≤ maxLen) (qa : RgV va) (qb : RgV vb) :
    Calls Try.prog 4 #[ShV l0 l1 l2 l3 l4 l5 l6 l7 n keys mode grain, .slice Ra na ca, .slice Rb nb cb] w fun e w' => e = .returned (.bool true) ∧ Below w.heap.size w w' := by
  have t := Bk.new w (shC l0 l1 l2 l3 l4 l5 l6 l7 n keys mode grain) 43
  go_enter Try.func4, Try.ntmps4
  go_wp2_with fail
  refine (shown4_is _).mono ?_
  rintro e w1 ⟨rfl, hb1⟩
  have t1 := t.below hb1
  have hw1 := after1 hb1
  have ha1 := ha.below hw1
  have hb1' := hb.below hw1
  clear t hb1 ha hb
  obtain ⟨⟨x0, x1, x2, x3⟩, ⟨x4, x5, x6, x7⟩, ⟨x8, x9, x10, x11⟩⟩ := t1.shape
  go_wp2_with fail
  refine (made_good h _).mono ?_
  rintro e w2 ⟨A, N, C, K, m, g, ts, rfl, hk, hN, ho, hb2⟩
  clear x0 x1 x2 x3 x4 x5 x6 x7 x8 x9 x10 x11 t1
  obtain ⟨A', C', hA, hC1, hC2, hv, -⟩ := ho.sv
  cases hA
  have hkk := Lib.hid (MadeG.keys hk)
  have hx := Sx.new w2 A N C K m g 24
  have ha2 := (ha1.below hb2).alloc (.cells #[.slice A N C, .int .i64 K, .int .i64 m, .int .i64 g] 24)
  have hb2' := (hb1'.below hb2).alloc (.cells #[.slice A N C, .int .i64 K, .int .i64 m, .int .i64 g] 24)
  have hv2 := hv.alloc (.cells #[.slice A N C, .int .i64 K, .int .i64 m, .int .i64 g] 24)
  have hw2 := (Below.then hw1 hb2).alloc (by have := (Below.then hw1 hb2).size; omega) (.cells #[.slice A N C, .int .i64 K, .int .i64 m, .int .i64 g] 24)
  clear ho hv ha1 hb1' hb2 hw1
  go_wp2_with fail
  generalize w2.alloc (.cells #[.slice A N C, .int .i64 K, .int .i64 m, .int .i64 g] 24) = w3 at *
  refine (short4_any Ra na ca va _ ha2 hna).mono ?_
  rintro e w4 ⟨Ma, a4, c4, rfl, hMa, ho4, hb4⟩
  have hx4 := hx.below hb4
  have hb4' := hb2'.below hb4
  have hv4 := hv2.below hb4
  have hw4 := Below.then hw2 hb4
  clear ha2 hb2' hv2 hx hb4
  go_wp2_with fail
  refine (short4_any Rb nb cb vb _ hb4' hnb).mono ?_
  rintro e w5 ⟨Mb, a5, c5, rfl, hMb, ho5, hb5⟩
  have hx5 := hx4.below hb5
  have hv5 := hv4.below hb5
  have ho4 := ho4.below hb5
  have hw5 := Below.then hw4 hb5
  clear hx4 hv4 hb5 hb4'
  obtain ⟨_, _, hA, -, hC4, hv4, -⟩ := ho4.sv
  cases hA
  obtain ⟨_, _, hA, -, hC5, hv5', -⟩ := ho5.sv
  cases hA
  clear ho4 ho5
  obtain ⟨c0, c1, c2, c3⟩ := hx5
  have hN1 : N ≤ maxLen := by unfold maxLen; omega
  have hK1 : K ≤ maxLen := by unfold maxLen; have := hkk.out; omega
  go_wp2_with fail
  refine wp_region_noPanic ?_
  refine region_g 13 (Ext (World.drew _)) (by kernel_rfl) (Ext.refl _) (fun hS => ?_)
  refine take_w (i := 0) (v := ?_) (some 16) rfl (by kernel_rfl) rfl (fun _ _ _ h => h) (Or.inl ⟨by rfl, ?_⟩) hS ?_
  rotate_left
  · (intro wq hq; go_simp); first | done | with_reducible rfl
  try simp only [Act.put, List.setIfInBounds_toArray, List.set_cons_zero, List.set_cons_succ]
  replace hS := Till.list 0 hS
  refine take_w (i := 1) (v := ?_) (some 17) rfl (by kernel_rfl) rfl (fun _ _ _ h => h) (Or.inl ⟨by rfl, ?_⟩) hS ?_
  rotate_left
  · (intro wq hq; go_simp); first | done | with_reducible rfl
  try simp only [Act.put, List.setIfInBounds_toArray, List.set_cons_zero, List.set_cons_succ]
  replace hS := Till.list 1 hS
  refine take_n (i := 2) (v := ?_) (some 18) rfl (by kernel_rfl) rfl (fun _ _ _ h => h) (Or.inl ⟨by rfl, ?_⟩) hS ?_
  rotate_left
  · (intro wq hq; have q0 := hq _ _ _ c0; have q1 := hq _ _ _ c1; have q2 := hq _ _ _ c2; have q3 := hq _ _ _ c3; go_simp); first | done | with_reducible rfl
  try simp only [Act.put, List.setIfInBounds_toArray, List.set_cons_zero, List.set_cons_succ]
  replace hS := Till.list 2 hS
  refine take_w (i := 3) (v := ?_) (some 19) rfl (by kernel_rfl) rfl (fun _ _ _ h => h) (Or.inl ⟨by rfl, ?_⟩) hS ?_
  rotate_left
  · (intro wq hq; go_simp); first | done | with_reducible rfl
  try simp only [Act.put, List.setIfInBounds_toArray, List.set_cons_zero, List.set_cons_succ]
  replace hS := Till.list 3 hS
  refine take_w (i := 4) (v := ?_) (some 20) rfl (by kernel_rfl) rfl (fun _ _ _ h => h) (Or.inl ⟨by rfl, ?_⟩) hS ?_
  rotate_left
  · (intro wq hq; go_simp); first | done | with_reducible rfl
  try simp only [Act.put, List.setIfInBounds_toArray, List.set_cons_zero, List.set_cons_succ]
  replace hS := Till.list 4 hS
  refine take_n (i := 6) (v := ?_) (some 22) rfl (by kernel_rfl) rfl (fun _ _ _ h => h) (Or.inl ⟨by rfl, ?_⟩) hS ?_
  rotate_left
  · (intro wq hq; have q0 := hq _ _ _ c0; have q1 := hq _ _ _ c1; have q2 := hq _ _ _ c2; have q3 := hq _ _ _ c3; go_simp); first | done | with_reducible rfl
  try simp only [Act.put, List.setIfInBounds_toArray, List.set_cons_zero, List.set_cons_succ]
  replace hS := Till.list 6 hS
  refine take_w (i := 7) (v := ?_) (some 23) rfl (by kernel_rfl) rfl (fun _ _ _ h => h) (Or.inl ⟨by rfl, ?_⟩) hS ?_
  rotate_left
  · (intro wq hq; go_simp); first | done | with_reducible rfl
  try simp only [Act.put, List.setIfInBounds_toArray, List.set_cons_zero, List.set_cons_succ]
  replace hS := Till.list 7 hS
  refine take_w (i := 8) (v := ?_) (some 24) rfl (by kernel_rfl) rfl (fun _ _ _ h => h) (Or.inl ⟨by rfl, ?_⟩) hS ?_
  rotate_left
  · (intro wq hq; go_simp); first | done | with_reducible rfl
  try simp only [Act.put, List.setIfInBounds_toArray, List.set_cons_zero, List.set_cons_succ]
  replace hS := Till.list 8 hS
  refine ready_g (rs := [5]) (by kernel_rfl) (by simp) ?_
  refine AllReadyG.cons rfl (fun Kont hK => ?_) AllReadyG.nil
  go_simp
  refine (scompare_any A N C ts K m g a4 Ma c4 (shortR va) a5 Mb c5 (shortR vb) _ hv5.drew hN1 hv4.drew (few_max (by omega)) hv5'.drew (few_max (by omega)) hK1).mono ?_
  rintro e w6 ⟨rfl, hb6⟩
  have hv6 := hv5.drew.below hb6
  have hv6a := hv4.drew.below hb6
  have hv6b := hv5'.drew.below hb6
  refine hK.out _ _ (Or.inr ((hS.get (by kernel_rfl)).trans (Ext.below hb6))) (fun hS0 => ?_)
  clear hK Kont
  try simp only [Act.put, List.setIfInBounds_toArray, List.set_cons_zero, List.set_cons_succ]
  clear hS
  have hS := hS0
  clear hS0
  refine ready_g (rs := [9]) (by kernel_rfl) (by simp) ?_
  refine AllReadyG.cons rfl (fun Kont hK => ?_) AllReadyG.nil
  go_simp
  refine (r4compare_any A N C ts K m g a4 Ma c4 (shortR va) a5 Mb c5 (shortR vb) _ hv6 hN1 hv6a (few_max (by omega)) hv6b (few_max (by omega)) hK1 (shortR_rg qa) (shortR_rg qb)).mono ?_
  rintro e w7 ⟨rfl, hb7⟩
  refine hK.out _ _ (Or.inr ((hS.get (by kernel_rfl)).trans (Ext.below hb7))) (fun hS0 => ?_)
  clear hK Kont
  try simp only [Act.put, List.setIfInBounds_toArray, List.set_cons_zero, List.set_cons_succ]
  clear hS
  have hS := hS0
  clear hS0
  refine take_w (i := 10) (v := ?_) (some 26) rfl (by kernel_rfl) rfl (fun _ _ _ h => h) (Or.inl ⟨by rfl, ?_⟩) hS ?_
  rotate_left
  · (intro wq hq; go_simp); first | done | with_reducible rfl
  try simp only [Act.put, List.setIfInBounds_toArray, List.set_cons_zero, List.set_cons_succ]
  replace hS := Till.list 10 hS
  refine take_w (i := 11) (v := ?_) (some 27) rfl (by kernel_rfl) rfl (fun _ _ _ h => h) (Or.inl ⟨by rfl, ?_⟩) hS ?_
  rotate_left
  · (intro wq hq; go_simp); first | done | with_reducible rfl
  try simp only [Act.put, List.setIfInBounds_toArray, List.set_cons_zero, List.set_cons_succ]
  replace hS := Till.list 11 hS
  refine take_w (i := 12) (v := ?_) (some 6) rfl (by kernel_rfl) rfl (fun _ _ _ h => h) (Or.inl ⟨by rfl, ?_⟩) hS ?_
  rotate_left
  · (intro wq hq; go_simp); first | done | with_reducible rfl
  try simp only [Act.put, List.setIfInBounds_toArray, List.set_cons_zero, List.set_cons_succ]
  replace hS := Till.list 12 hS
  refine done_g (by kernel_rfl) (NoPanic.normal ?_) _
  clear hS
  have hw7 := Below.then (Below.then hw5.drew hb6) hb7
  go_wp2_with fail
  go_ret
  exact ⟨rfl, hw7⟩
end Go.Proofs.Ytllgnafbemmcaaa
