/- TextsAll: the walk. -/
import Derived.Test.YtmoppmifhhnolaaT6i
import Derived.Test.YtmoppmifhhnolaaT6d
import Derived.Test.YtmoppmifhhnolaaT6w
namespace Go.Proofs.Ytmoppmifhhnolaa
open Go.ChangeShapes Go.WideShapes Go.ChangeAt Go.RowKit
set_option linter.unusedVariables false

/-- what bytes say, and the error that is told -/
def SaysT (zs : List Int) (ev : Int) (k : List ByteArray) : Prop := (ev = 0 ∧ OkT k ∧ putT k = zs) ∨ (ev = 10 ∧ k = [] ∧ NoT zs)
theorem SaysT.one {zs : List Int} {e f : Int} {k l : List ByteArray} (h1 : SaysT zs e k) (h2 : SaysT zs f l) : e = f ∧ k = l := by
  rcases h1 with ⟨rfl, a1, a3⟩ | ⟨rfl, rfl, a1⟩
  · rcases h2 with ⟨rfl, b1, b3⟩ | ⟨rfl, rfl, b1⟩
    · have := a1.1
      have := b1.1
      exact ⟨rfl, putT_inj a1.fit b1.fit (by omega) (by omega) (by rw [a3, b3])⟩
    · exact absurd a3 (b1 k a1)
  · rcases h2 with ⟨rfl, b1, b3⟩ | ⟨rfl, rfl, b1⟩
    · exact absurd b3 (a1 l b1)
    · exact ⟨rfl, rfl⟩
theorem TakeT.says {w w' : World} {zs : List Int} {e : Ending} (h : TakeT w w' zs e) :
    ∃ (A : Option Addr) (N C : Nat) (k : List ByteArray) (ev : Int), e = .returned (.tuple #[.slice A N C, .int .i64 ev]) ∧ N ≤ 2000 ∧ TV w' A N k ∧ Hid (SaysT zs ev k) ∧ Below w.heap.size w w' := by
  rcases h with ⟨A, N, C, l, he, hC, hN, hi, hl, hp, hb⟩ | ⟨he, hno, hb⟩
  · exact ⟨A, N, C, l, 0, he, hN, hl, Lib.hid (.inl ⟨rfl, ⟨by rw [TV.len hl]; exact hN, hi⟩, hp⟩), hb⟩
  · exact ⟨Option.none, 0, 0, [], 10, he, by omega, SV.zero _ _, Lib.hid (.inr ⟨rfl, rfl, hno⟩), hb⟩
set_option maxHeartbeats 4000000 in
theorem all6_is (A0 : Option Addr) (n0 C0 : Nat) (l0 : List ByteArray) (a : Option Addr) (m c : Nat) (zs : List Int) (w : World) (hv0 : TV w A0 n0 l0) (bz : BV w a m zs) (hc : m ≤ c) :
    Calls Try.prog 3 #[.slice A0 n0 C0, .slice a m c] w fun e w' => e = .returned (.bool true) ∧ Below w.heap.size w w' := by
  go_enter Try.func3, Try.ntmps3
  go_wp2_with fail
  refine (shown6_is _).mono ?_
  rintro e w1 ⟨rfl, hb1⟩
  have hv1 := hv0.below hb1
  replace bz := bz.below hb1
  go_wp2_with fail
  refine (few6_any A0 n0 C0 l0 _ hv1).mono ?_
  rintro e w' ⟨A, N, C, l, rfl, hCN, hN, hv, hf, -, hbf⟩
  replace bz := bz.below hbf
  replace hb1 := Below.then hb1 hbf
  have hr := hf.sm
  have HDB := Lib.hid (dictL_bytes (l := l) (by rw [TV.len hv]; omega))
  have HPB := Lib.hid (putT_bytes (l := l) (by rw [TV.len hv]; omega))
  clear hv0 hv1 hbf
  by_cases h5 : m ≤ 500
  · have h5i : ¬ (500 : Int) < (m : Int) := by omega
    go_wp2_with fail
    refine (takeT_any a m c zs _ bz (by omega)).mono ?_
    rintro e w2 he
    obtain ⟨A2, N2, C2, k2, e2, rfl, hN2, v2, s2, hb2⟩ := he.says
    replace hv := hv.below hb2
    replace bz := bz.below hb2
    replace hb1 := Below.then hb1 hb2
    clear he hb2
    go_wp2_with fail
    refine (rtakeT_any a m c zs _ bz (by omega) (by omega)).mono ?_
    rintro e w3 he
    obtain ⟨A3, N3, C3, k3, e3, rfl, hN3, v3, s3, hb3⟩ := he.says
    obtain ⟨rfl, rfl⟩ := s2.out.one s3.out
    replace hv := hv.below hb3
    replace v2 := v2.below hb3
    replace hb1 := Below.then hb1 hb3
    clear he hb3 s2 s3 bz
    go_wp2_with fail
    refine (same6_any A2 N2 C2 k2 A3 N3 C3 k2 _ v2 v3 (by omega) (by omega)).mono ?_
    rw [decide_eq_true rfl]
    rintro e w4 ⟨rfl, hb4⟩
    replace hv := hv.below hb4
    replace hb1 := Below.then hb1 hb4
    clear hb4 v2 v3
    have st1 := str_beq (eachL_bytes l) (eachL_bytes l)
    have st2 := str_beq HDB.out HDB.out
    have st3 := str_beq HPB.out HPB.out
    go_wp2_with fail
    refine wp_region_noPanic ?_
    refine region_g 17 (Ext (World.drew _)) (by kernel_rfl) (Ext.refl _) (fun hS => ?_)
    refine take_w (i := 0) (v := ?_) (some 33) rfl (by kernel_rfl) rfl (fun _ _ _ h => h) (Or.inl ⟨by rfl, ?_⟩) hS ?_
    rotate_left
    · (intro wq hq; go_simp); first | done | with_reducible rfl
    try simp only [Act.put, List.setIfInBounds_toArray, List.set_cons_zero, List.set_cons_succ]
    replace hS := Till.list 0 hS
    refine take_w (i := 3) (v := ?_) (some 36) rfl (by kernel_rfl) rfl (fun _ _ _ h => h) (Or.inl ⟨by rfl, ?_⟩) hS ?_
    rotate_left
    · (intro wq hq; go_simp); first | done | with_reducible rfl
    try simp only [Act.put, List.setIfInBounds_toArray, List.set_cons_zero, List.set_cons_succ]
    replace hS := Till.list 3 hS
    refine ready_g (rs := [1]) (by kernel_rfl) (by simp) ?_
    refine AllReadyG.cons rfl (fun Kont hK => ?_) AllReadyG.nil
    go_simp
    refine (each_any A N C l _ hv.drew hr (by omega)).mono ?_
    rintro e w5 ⟨vx, rfl, ox, hb5⟩
    obtain ⟨ax, cx, rfl, -, -, bx, -⟩ := ox.bvn (eachL_bytes l) _ rfl
    replace hv := hv.drew.below hb5
    replace hb1 := Below.then hb1.drew hb5
    refine hK.out _ _ (Or.inr ((hS.get (by kernel_rfl)).trans (Ext.below hb5))) (fun hS0 => ?_)
    clear hK Kont
    try simp only [Act.put, List.setIfInBounds_toArray, List.set_cons_zero, List.set_cons_succ]
    clear hS
    refine now_t (by kernel_rfl) hS0 (fun hS => ?_)
    clear hS0
    clear hb5 ox
    refine take_n (i := 2) (v := .string (strOfNums (eachL l))) (some 35) rfl (by kernel_rfl) rfl (fun _ _ _ h => h) (Or.inl ⟨by rfl, ?_⟩) hS ?_
    · (intro wq hq; (have hcv := conv_any (bx.ext hq) cx; go_simp))
    try simp only [Act.put, List.setIfInBounds_toArray, List.set_cons_zero, List.set_cons_succ]
    replace hS := Till.list 2 hS
    refine ready_g (rs := [4]) (by kernel_rfl) (by simp) ?_
    refine AllReadyG.cons rfl (fun Kont hK => ?_) AllReadyG.nil
    go_simp
    refine (reach6_any A N C l _ hv hr (by omega)).mono ?_
    rintro e w6 ⟨vy, rfl, oy, hb6⟩
    obtain ⟨ay, cy, rfl, -, -, by', -⟩ := oy.bvn (eachL_bytes l) _ rfl
    replace hv := hv.below hb6
    replace hb1 := Below.then hb1 hb6
    refine hK.out _ _ (Or.inr ((hS.get (by kernel_rfl)).trans (Ext.below hb6))) (fun hS0 => ?_)
    clear hK Kont
    try simp only [Act.put, List.setIfInBounds_toArray, List.set_cons_zero, List.set_cons_succ]
    clear hS
    refine now_t (by kernel_rfl) hS0 (fun hS => ?_)
    clear hS0
    clear hb6 oy bx
    refine take_n (i := 5) (v := .string (strOfNums (eachL l))) (some 38) rfl (by kernel_rfl) rfl (fun _ _ _ h => h) (Or.inl ⟨by rfl, ?_⟩) hS ?_
    · (intro wq hq; (have hcv := conv_any (by'.ext hq) cy; go_simp))
    try simp only [Act.put, List.setIfInBounds_toArray, List.set_cons_zero, List.set_cons_succ]
    replace hS := Till.list 5 hS
    refine take_w (i := 6) (v := ?_) (some 39) rfl (by kernel_rfl) rfl (fun _ _ _ h => h) (Or.inl ⟨by rfl, ?_⟩) hS ?_
    rotate_left
    · (intro wq hq; go_simp); first | done | with_reducible rfl
    try simp only [Act.put, List.setIfInBounds_toArray, List.set_cons_zero, List.set_cons_succ]
    replace hS := Till.list 6 hS
    refine take_w (i := 7) (v := ?_) (some 40) rfl (by kernel_rfl) rfl (fun _ _ _ h => h) (Or.inl ⟨by rfl, ?_⟩) hS ?_
    rotate_left
    · (intro wq hq; go_simp); first | done | with_reducible rfl
    try simp only [Act.put, List.setIfInBounds_toArray, List.set_cons_zero, List.set_cons_succ]
    replace hS := Till.list 7 hS
    refine take_w (i := 8) (v := ?_) (some 41) rfl (by kernel_rfl) rfl (fun _ _ _ h => h) (Or.inl ⟨by rfl, ?_⟩) hS ?_
    rotate_left
    · (intro wq hq; go_simp); first | done | with_reducible rfl
    try simp only [Act.put, List.setIfInBounds_toArray, List.set_cons_zero, List.set_cons_succ]
    replace hS := Till.list 8 hS
    refine take_w (i := 11) (v := ?_) (some 44) rfl (by kernel_rfl) rfl (fun _ _ _ h => h) (Or.inl ⟨by rfl, ?_⟩) hS ?_
    rotate_left
    · (intro wq hq; go_simp); first | done | with_reducible rfl
    try simp only [Act.put, List.setIfInBounds_toArray, List.set_cons_zero, List.set_cons_succ]
    replace hS := Till.list 11 hS
    refine ready_g (rs := [9]) (by kernel_rfl) (by simp) ?_
    refine AllReadyG.cons rfl (fun Kont hK => ?_) AllReadyG.nil
    go_simp
    refine (dict_any A N C l _ hv hr (by omega)).mono ?_
    rintro e w7 ⟨vx, rfl, ox, hb7⟩
    obtain ⟨ap, cp, rfl, -, -, bp, -⟩ := ox.bvn HDB.out _ rfl
    replace hv := hv.below hb7
    replace hb1 := Below.then hb1 hb7
    refine hK.out _ _ (Or.inr ((hS.get (by kernel_rfl)).trans (Ext.below hb7))) (fun hS0 => ?_)
    clear hK Kont
    try simp only [Act.put, List.setIfInBounds_toArray, List.set_cons_zero, List.set_cons_succ]
    clear hS
    refine now_t (by kernel_rfl) hS0 (fun hS => ?_)
    clear hS0
    clear hb7 ox by'
    refine take_n (i := 10) (v := .string (strOfNums (dictL l))) (some 43) rfl (by kernel_rfl) rfl (fun _ _ _ h => h) (Or.inl ⟨by rfl, ?_⟩) hS ?_
    · (intro wq hq; (have hcv := conv_any (bp.ext hq) cp; go_simp))
    try simp only [Act.put, List.setIfInBounds_toArray, List.set_cons_zero, List.set_cons_succ]
    replace hS := Till.list 10 hS
    refine ready_g (rs := [12]) (by kernel_rfl) (by simp) ?_
    refine AllReadyG.cons rfl (fun Kont hK => ?_) AllReadyG.nil
    go_simp
    refine (rdict6_any A N C l _ hv hr (by omega)).mono ?_
    rintro e w8 ⟨vy, rfl, oy, hb8⟩
    obtain ⟨aq, cq, rfl, -, -, bq, -⟩ := oy.bvn HDB.out _ rfl
    replace hv := hv.below hb8
    replace hb1 := Below.then hb1 hb8
    refine hK.out _ _ (Or.inr ((hS.get (by kernel_rfl)).trans (Ext.below hb8))) (fun hS0 => ?_)
    clear hK Kont
    try simp only [Act.put, List.setIfInBounds_toArray, List.set_cons_zero, List.set_cons_succ]
    clear hS
    refine now_t (by kernel_rfl) hS0 (fun hS => ?_)
    clear hS0
    clear hb8 oy bp
    refine take_n (i := 13) (v := .string (strOfNums (dictL l))) (some 46) rfl (by kernel_rfl) rfl (fun _ _ _ h => h) (Or.inl ⟨by rfl, ?_⟩) hS ?_
    · (intro wq hq; (have hcv := conv_any (bq.ext hq) cq; go_simp))
    try simp only [Act.put, List.setIfInBounds_toArray, List.set_cons_zero, List.set_cons_succ]
    replace hS := Till.list 13 hS
    refine take_w (i := 14) (v := ?_) (some 47) rfl (by kernel_rfl) rfl (fun _ _ _ h => h) (Or.inl ⟨by rfl, ?_⟩) hS ?_
    rotate_left
    · (intro wq hq; go_simp); first | done | with_reducible rfl
    try simp only [Act.put, List.setIfInBounds_toArray, List.set_cons_zero, List.set_cons_succ]
    replace hS := Till.list 14 hS
    refine take_w (i := 15) (v := ?_) (some 48) rfl (by kernel_rfl) rfl (fun _ _ _ h => h) (Or.inl ⟨by rfl, ?_⟩) hS ?_
    rotate_left
    · (intro wq hq; go_simp); first | done | with_reducible rfl
    try simp only [Act.put, List.setIfInBounds_toArray, List.set_cons_zero, List.set_cons_succ]
    replace hS := Till.list 15 hS
    refine take_w (i := 16) (v := ?_) (some 11) rfl (by kernel_rfl) rfl (fun _ _ _ h => h) (Or.inl ⟨by rfl, ?_⟩) hS ?_
    rotate_left
    · (intro wq hq; go_simp); first | done | with_reducible rfl
    try simp only [Act.put, List.setIfInBounds_toArray, List.set_cons_zero, List.set_cons_succ]
    replace hS := Till.list 16 hS
    refine done_g (by kernel_rfl) (NoPanic.normal ?_) _
    clear hS
    clear bq st1 st2
    go_wp2_with fail
    refine wp_region_noPanic ?_
    refine region_g 22 (Ext (World.drew _)) (by kernel_rfl) (Ext.refl _) (fun hS => ?_)
    refine take_w (i := 0) (v := ?_) (some 49) rfl (by kernel_rfl) rfl (fun _ _ _ h => h) (Or.inl ⟨by rfl, ?_⟩) hS ?_
    rotate_left
    · (intro wq hq; go_simp); first | done | with_reducible rfl
    try simp only [Act.put, List.setIfInBounds_toArray, List.set_cons_zero, List.set_cons_succ]
    replace hS := Till.list 0 hS
    refine take_w (i := 1) (v := ?_) (some 50) rfl (by kernel_rfl) rfl (fun _ _ _ h => h) (Or.inl ⟨by rfl, ?_⟩) hS ?_
    rotate_left
    · (intro wq hq; go_simp); first | done | with_reducible rfl
    try simp only [Act.put, List.setIfInBounds_toArray, List.set_cons_zero, List.set_cons_succ]
    replace hS := Till.list 1 hS
    refine take_w (i := 2) (v := ?_) (some 51) rfl (by kernel_rfl) rfl (fun _ _ _ h => h) (Or.inl ⟨by rfl, ?_⟩) hS ?_
    rotate_left
    · (intro wq hq; go_simp); first | done | with_reducible rfl
    try simp only [Act.put, List.setIfInBounds_toArray, List.set_cons_zero, List.set_cons_succ]
    replace hS := Till.list 2 hS
    refine take_w (i := 3) (v := ?_) (some 52) rfl (by kernel_rfl) rfl (fun _ _ _ h => h) (Or.inl ⟨by rfl, ?_⟩) hS ?_
    rotate_left
    · (intro wq hq; go_simp); first | done | with_reducible rfl
    try simp only [Act.put, List.setIfInBounds_toArray, List.set_cons_zero, List.set_cons_succ]
    replace hS := Till.list 3 hS
    refine take_w (i := 4) (v := ?_) (some 53) rfl (by kernel_rfl) rfl (fun _ _ _ h => h) (Or.inl ⟨by rfl, ?_⟩) hS ?_
    rotate_left
    · (intro wq hq; go_simp); first | done | with_reducible rfl
    try simp only [Act.put, List.setIfInBounds_toArray, List.set_cons_zero, List.set_cons_succ]
    replace hS := Till.list 4 hS
    refine take_w (i := 5) (v := ?_) (some 54) rfl (by kernel_rfl) rfl (fun _ _ _ h => h) (Or.inl ⟨by rfl, ?_⟩) hS ?_
    rotate_left
    · (intro wq hq; go_simp); first | done | with_reducible rfl
    try simp only [Act.put, List.setIfInBounds_toArray, List.set_cons_zero, List.set_cons_succ]
    replace hS := Till.list 5 hS
    refine take_w (i := 8) (v := ?_) (some 57) rfl (by kernel_rfl) rfl (fun _ _ _ h => h) (Or.inl ⟨by rfl, ?_⟩) hS ?_
    rotate_left
    · (intro wq hq; go_simp); first | done | with_reducible rfl
    try simp only [Act.put, List.setIfInBounds_toArray, List.set_cons_zero, List.set_cons_succ]
    replace hS := Till.list 8 hS
    refine ready_g (rs := [6]) (by kernel_rfl) (by simp) ?_
    refine AllReadyG.cons rfl (fun Kont hK => ?_) AllReadyG.nil
    go_simp
    refine (putT_any A N C l _ hv.drew hr (by omega)).mono ?_
    rintro e w9 ⟨vx, rfl, ox, hb9⟩
    obtain ⟨ar, cr, rfl, -, -, br, -⟩ := ox.bvn HPB.out _ rfl
    replace hv := hv.drew.below hb9
    replace hb1 := Below.then hb1.drew hb9
    refine hK.out _ _ (Or.inr ((hS.get (by kernel_rfl)).trans (Ext.below hb9))) (fun hS0 => ?_)
    clear hK Kont
    try simp only [Act.put, List.setIfInBounds_toArray, List.set_cons_zero, List.set_cons_succ]
    clear hS
    refine now_t (by kernel_rfl) hS0 (fun hS => ?_)
    clear hS0
    clear hb9 ox
    refine take_n (i := 7) (v := .string (strOfNums (putT l))) (some 56) rfl (by kernel_rfl) rfl (fun _ _ _ h => h) (Or.inl ⟨by rfl, ?_⟩) hS ?_
    · (intro wq hq; (have hcv := conv_any (br.ext hq) cr; go_simp))
    try simp only [Act.put, List.setIfInBounds_toArray, List.set_cons_zero, List.set_cons_succ]
    replace hS := Till.list 7 hS
    refine ready_g (rs := [9]) (by kernel_rfl) (by simp) ?_
    refine AllReadyG.cons rfl (fun Kont hK => ?_) AllReadyG.nil
    go_simp
    refine (rputT_any A N C l _ hv hr (by omega)).mono ?_
    rintro e w10 ⟨vy, rfl, oy, hb10⟩
    obtain ⟨as', cs, rfl, -, -, bs, -⟩ := oy.bvn HPB.out _ rfl
    replace hb1 := Below.then hb1 hb10
    refine hK.out _ _ (Or.inr ((hS.get (by kernel_rfl)).trans (Ext.below hb10))) (fun hS0 => ?_)
    clear hK Kont
    try simp only [Act.put, List.setIfInBounds_toArray, List.set_cons_zero, List.set_cons_succ]
    clear hS
    refine now_t (by kernel_rfl) hS0 (fun hS => ?_)
    clear hS0
    clear hb10 oy br
    refine take_n (i := 10) (v := .string (strOfNums (putT l))) (some 59) rfl (by kernel_rfl) rfl (fun _ _ _ h => h) (Or.inl ⟨by rfl, ?_⟩) hS ?_
    · (intro wq hq; (have hcv := conv_any (bs.ext hq) cs; go_simp))
    try simp only [Act.put, List.setIfInBounds_toArray, List.set_cons_zero, List.set_cons_succ]
    replace hS := Till.list 10 hS
    refine take_w (i := 11) (v := ?_) (some 60) rfl (by kernel_rfl) rfl (fun _ _ _ h => h) (Or.inl ⟨by rfl, ?_⟩) hS ?_
    rotate_left
    · (intro wq hq; go_simp); first | done | with_reducible rfl
    try simp only [Act.put, List.setIfInBounds_toArray, List.set_cons_zero, List.set_cons_succ]
    replace hS := Till.list 11 hS
    refine take_w (i := 12) (v := ?_) (some 61) rfl (by kernel_rfl) rfl (fun _ _ _ h => h) (Or.inl ⟨by rfl, ?_⟩) hS ?_
    rotate_left
    · (intro wq hq; go_simp); first | done | with_reducible rfl
    try simp only [Act.put, List.setIfInBounds_toArray, List.set_cons_zero, List.set_cons_succ]
    replace hS := Till.list 12 hS
    refine take_w (i := 13) (v := ?_) (some 62) rfl (by kernel_rfl) rfl (fun _ _ _ h => h) (Or.inl ⟨by rfl, ?_⟩) hS ?_
    rotate_left
    · (intro wq hq; go_simp); first | done | with_reducible rfl
    try simp only [Act.put, List.setIfInBounds_toArray, List.set_cons_zero, List.set_cons_succ]
    replace hS := Till.list 13 hS
    refine take_w (i := 14) (v := ?_) (some 63) rfl (by kernel_rfl) rfl (fun _ _ _ h => h) (Or.inl ⟨by rfl, ?_⟩) hS ?_
    rotate_left
    · (intro wq hq; go_simp); first | done | with_reducible rfl
    try simp only [Act.put, List.setIfInBounds_toArray, List.set_cons_zero, List.set_cons_succ]
    replace hS := Till.list 14 hS
    refine take_w (i := 15) (v := ?_) (some 64) rfl (by kernel_rfl) rfl (fun _ _ _ h => h) (Or.inl ⟨by rfl, ?_⟩) hS ?_
    rotate_left
    · (intro wq hq; go_simp); first | done | with_reducible rfl
    try simp only [Act.put, List.setIfInBounds_toArray, List.set_cons_zero, List.set_cons_succ]
    replace hS := Till.list 15 hS
    refine take_w (i := 16) (v := ?_) (some 65) rfl (by kernel_rfl) rfl (fun _ _ _ h => h) (Or.inl ⟨by rfl, ?_⟩) hS ?_
    rotate_left
    · (intro wq hq; go_simp); first | done | with_reducible rfl
    try simp only [Act.put, List.setIfInBounds_toArray, List.set_cons_zero, List.set_cons_succ]
    replace hS := Till.list 16 hS
    refine take_w (i := 17) (v := ?_) (some 66) rfl (by kernel_rfl) rfl (fun _ _ _ h => h) (Or.inl ⟨by rfl, ?_⟩) hS ?_
    rotate_left
    · (intro wq hq; go_simp); first | done | with_reducible rfl
    try simp only [Act.put, List.setIfInBounds_toArray, List.set_cons_zero, List.set_cons_succ]
    replace hS := Till.list 17 hS
    refine take_w (i := 18) (v := ?_) (some 67) rfl (by kernel_rfl) rfl (fun _ _ _ h => h) (Or.inl ⟨by rfl, ?_⟩) hS ?_
    rotate_left
    · (intro wq hq; go_simp); first | done | with_reducible rfl
    try simp only [Act.put, List.setIfInBounds_toArray, List.set_cons_zero, List.set_cons_succ]
    replace hS := Till.list 18 hS
    refine take_w (i := 19) (v := ?_) (some 68) rfl (by kernel_rfl) rfl (fun _ _ _ h => h) (Or.inl ⟨by rfl, ?_⟩) hS ?_
    rotate_left
    · (intro wq hq; go_simp); first | done | with_reducible rfl
    try simp only [Act.put, List.setIfInBounds_toArray, List.set_cons_zero, List.set_cons_succ]
    replace hS := Till.list 19 hS
    refine take_w (i := 20) (v := ?_) (some 69) rfl (by kernel_rfl) rfl (fun _ _ _ h => h) (Or.inl ⟨by rfl, ?_⟩) hS ?_
    rotate_left
    · (intro wq hq; go_simp); first | done | with_reducible rfl
    try simp only [Act.put, List.setIfInBounds_toArray, List.set_cons_zero, List.set_cons_succ]
    replace hS := Till.list 20 hS
    refine take_w (i := 21) (v := ?_) (some 4) rfl (by kernel_rfl) rfl (fun _ _ _ h => h) (Or.inl ⟨by rfl, ?_⟩) hS ?_
    rotate_left
    · (intro wq hq; go_simp); first | done | with_reducible rfl
    try simp only [Act.put, List.setIfInBounds_toArray, List.set_cons_zero, List.set_cons_succ]
    replace hS := Till.list 21 hS
    refine done_g (by kernel_rfl) (NoPanic.normal ?_) _
    clear hS
    go_wp2_with fail
    go_ret
    exact ⟨rfl, hb1⟩
  · have h5i : (500 : Int) < (m : Int) := by omega
    have h5c : 500 ≤ c := by omega
    replace bz := bz.take 500 (by omega)
    generalize zs.take 500 = ys at bz
    go_wp2_with fail
    refine (takeT_any a 500 c ys _ bz (by omega)).mono ?_
    rintro e w2 he
    obtain ⟨A2, N2, C2, k2, e2, rfl, hN2, v2, s2, hb2⟩ := he.says
    replace hv := hv.below hb2
    replace bz := bz.below hb2
    replace hb1 := Below.then hb1 hb2
    clear he hb2
    go_wp2_with fail
    refine (rtakeT_any a 500 c ys _ bz (by omega) (by omega)).mono ?_
    rintro e w3 he
    obtain ⟨A3, N3, C3, k3, e3, rfl, hN3, v3, s3, hb3⟩ := he.says
    obtain ⟨rfl, rfl⟩ := s2.out.one s3.out
    replace hv := hv.below hb3
    replace v2 := v2.below hb3
    replace hb1 := Below.then hb1 hb3
    clear he hb3 s2 s3 bz
    go_wp2_with fail
    refine (same6_any A2 N2 C2 k2 A3 N3 C3 k2 _ v2 v3 (by omega) (by omega)).mono ?_
    rw [decide_eq_true rfl]
    rintro e w4 ⟨rfl, hb4⟩
    replace hv := hv.below hb4
    replace hb1 := Below.then hb1 hb4
    clear hb4 v2 v3
    have st1 := str_beq (eachL_bytes l) (eachL_bytes l)
    have st2 := str_beq HDB.out HDB.out
    have st3 := str_beq HPB.out HPB.out
    go_wp2_with fail
    refine wp_region_noPanic ?_
    refine region_g 17 (Ext (World.drew _)) (by kernel_rfl) (Ext.refl _) (fun hS => ?_)
    refine take_w (i := 0) (v := ?_) (some 33) rfl (by kernel_rfl) rfl (fun _ _ _ h => h) (Or.inl ⟨by rfl, ?_⟩) hS ?_
    rotate_left
    · (intro wq hq; go_simp); first | done | with_reducible rfl
    try simp only [Act.put, List.setIfInBounds_toArray, List.set_cons_zero, List.set_cons_succ]
    replace hS := Till.list 0 hS
    refine take_w (i := 3) (v := ?_) (some 36) rfl (by kernel_rfl) rfl (fun _ _ _ h => h) (Or.inl ⟨by rfl, ?_⟩) hS ?_
    rotate_left
    · (intro wq hq; go_simp); first | done | with_reducible rfl
    try simp only [Act.put, List.setIfInBounds_toArray, List.set_cons_zero, List.set_cons_succ]
    replace hS := Till.list 3 hS
    refine ready_g (rs := [1]) (by kernel_rfl) (by simp) ?_
    refine AllReadyG.cons rfl (fun Kont hK => ?_) AllReadyG.nil
    go_simp
    refine (each_any A N C l _ hv.drew hr (by omega)).mono ?_
    rintro e w5 ⟨vx, rfl, ox, hb5⟩
    obtain ⟨ax, cx, rfl, -, -, bx, -⟩ := ox.bvn (eachL_bytes l) _ rfl
    replace hv := hv.drew.below hb5
    replace hb1 := Below.then hb1.drew hb5
    refine hK.out _ _ (Or.inr ((hS.get (by kernel_rfl)).trans (Ext.below hb5))) (fun hS0 => ?_)
    clear hK Kont
    try simp only [Act.put, List.setIfInBounds_toArray, List.set_cons_zero, List.set_cons_succ]
    clear hS
    refine now_t (by kernel_rfl) hS0 (fun hS => ?_)
    clear hS0
    clear hb5 ox
    refine take_n (i := 2) (v := .string (strOfNums (eachL l))) (some 35) rfl (by kernel_rfl) rfl (fun _ _ _ h => h) (Or.inl ⟨by rfl, ?_⟩) hS ?_
    · (intro wq hq; (have hcv := conv_any (bx.ext hq) cx; go_simp))
    try simp only [Act.put, List.setIfInBounds_toArray, List.set_cons_zero, List.set_cons_succ]
    replace hS := Till.list 2 hS
    refine ready_g (rs := [4]) (by kernel_rfl) (by simp) ?_
    refine AllReadyG.cons rfl (fun Kont hK => ?_) AllReadyG.nil
    go_simp
    refine (reach6_any A N C l _ hv hr (by omega)).mono ?_
    rintro e w6 ⟨vy, rfl, oy, hb6⟩
    obtain ⟨ay, cy, rfl, -, -, by', -⟩ := oy.bvn (eachL_bytes l) _ rfl
    replace hv := hv.below hb6
    replace hb1 := Below.then hb1 hb6
    refine hK.out _ _ (Or.inr ((hS.get (by kernel_rfl)).trans (Ext.below hb6))) (fun hS0 => ?_)
    clear hK Kont
    try simp only [Act.put, List.setIfInBounds_toArray, List.set_cons_zero, List.set_cons_succ]
    clear hS
    refine now_t (by kernel_rfl) hS0 (fun hS => ?_)
    clear hS0
    clear hb6 oy bx
    refine take_n (i := 5) (v := .string (strOfNums (eachL l))) (some 38) rfl (by kernel_rfl) rfl (fun _ _ _ h => h) (Or.inl ⟨by rfl, ?_⟩) hS ?_
    · (intro wq hq; (have hcv := conv_any (by'.ext hq) cy; go_simp))
    try simp only [Act.put, List.setIfInBounds_toArray, List.set_cons_zero, List.set_cons_succ]
    replace hS := Till.list 5 hS
    refine take_w (i := 6) (v := ?_) (some 39) rfl (by kernel_rfl) rfl (fun _ _ _ h => h) (Or.inl ⟨by rfl, ?_⟩) hS ?_
    rotate_left
    · (intro wq hq; go_simp); first | done | with_reducible rfl
    try simp only [Act.put, List.setIfInBounds_toArray, List.set_cons_zero, List.set_cons_succ]
    replace hS := Till.list 6 hS
    refine take_w (i := 7) (v := ?_) (some 40) rfl (by kernel_rfl) rfl (fun _ _ _ h => h) (Or.inl ⟨by rfl, ?_⟩) hS ?_
    rotate_left
    · (intro wq hq; go_simp); first | done | with_reducible rfl
    try simp only [Act.put, List.setIfInBounds_toArray, List.set_cons_zero, List.set_cons_succ]
    replace hS := Till.list 7 hS
    refine take_w (i := 8) (v := ?_) (some 41) rfl (by kernel_rfl) rfl (fun _ _ _ h => h) (Or.inl ⟨by rfl, ?_⟩) hS ?_
    rotate_left
    · (intro wq hq; go_simp); first | done | with_reducible rfl
    try simp only [Act.put, List.setIfInBounds_toArray, List.set_cons_zero, List.set_cons_succ]
    replace hS := Till.list 8 hS
    refine take_w (i := 11) (v := ?_) (some 44) rfl (by kernel_rfl) rfl (fun _ _ _ h => h) (Or.inl ⟨by rfl, ?_⟩) hS ?_
    rotate_left
    · (intro wq hq; go_simp); first | done | with_reducible rfl
    try simp only [Act.put, List.setIfInBounds_toArray, List.set_cons_zero, List.set_cons_succ]
    replace hS := Till.list 11 hS
    refine ready_g (rs := [9]) (by kernel_rfl) (by simp) ?_
    refine AllReadyG.cons rfl (fun Kont hK => ?_) AllReadyG.nil
    go_simp
    refine (dict_any A N C l _ hv hr (by omega)).mono ?_
    rintro e w7 ⟨vx, rfl, ox, hb7⟩
    obtain ⟨ap, cp, rfl, -, -, bp, -⟩ := ox.bvn HDB.out _ rfl
    replace hv := hv.below hb7
    replace hb1 := Below.then hb1 hb7
    refine hK.out _ _ (Or.inr ((hS.get (by kernel_rfl)).trans (Ext.below hb7))) (fun hS0 => ?_)
    clear hK Kont
    try simp only [Act.put, List.setIfInBounds_toArray, List.set_cons_zero, List.set_cons_succ]
    clear hS
    refine now_t (by kernel_rfl) hS0 (fun hS => ?_)
    clear hS0
    clear hb7 ox by'
    refine take_n (i := 10) (v := .string (strOfNums (dictL l))) (some 43) rfl (by kernel_rfl) rfl (fun _ _ _ h => h) (Or.inl ⟨by rfl, ?_⟩) hS ?_
    · (intro wq hq; (have hcv := conv_any (bp.ext hq) cp; go_simp))
    try simp only [Act.put, List.setIfInBounds_toArray, List.set_cons_zero, List.set_cons_succ]
    replace hS := Till.list 10 hS
    refine ready_g (rs := [12]) (by kernel_rfl) (by simp) ?_
    refine AllReadyG.cons rfl (fun Kont hK => ?_) AllReadyG.nil
    go_simp
    refine (rdict6_any A N C l _ hv hr (by omega)).mono ?_
    rintro e w8 ⟨vy, rfl, oy, hb8⟩
    obtain ⟨aq, cq, rfl, -, -, bq, -⟩ := oy.bvn HDB.out _ rfl
    replace hv := hv.below hb8
    replace hb1 := Below.then hb1 hb8
    refine hK.out _ _ (Or.inr ((hS.get (by kernel_rfl)).trans (Ext.below hb8))) (fun hS0 => ?_)
    clear hK Kont
    try simp only [Act.put, List.setIfInBounds_toArray, List.set_cons_zero, List.set_cons_succ]
    clear hS
    refine now_t (by kernel_rfl) hS0 (fun hS => ?_)
    clear hS0
    clear hb8 oy bp
    refine take_n (i := 13) (v := .string (strOfNums (dictL l))) (some 46) rfl (by kernel_rfl) rfl (fun _ _ _ h => h) (Or.inl ⟨by rfl, ?_⟩) hS ?_
    · (intro wq hq; (have hcv := conv_any (bq.ext hq) cq; go_simp))
    try simp only [Act.put, List.setIfInBounds_toArray, List.set_cons_zero, List.set_cons_succ]
    replace hS := Till.list 13 hS
    refine take_w (i := 14) (v := ?_) (some 47) rfl (by kernel_rfl) rfl (fun _ _ _ h => h) (Or.inl ⟨by rfl, ?_⟩) hS ?_
    rotate_left
    · (intro wq hq; go_simp); first | done | with_reducible rfl
    try simp only [Act.put, List.setIfInBounds_toArray, List.set_cons_zero, List.set_cons_succ]
    replace hS := Till.list 14 hS
    refine take_w (i := 15) (v := ?_) (some 48) rfl (by kernel_rfl) rfl (fun _ _ _ h => h) (Or.inl ⟨by rfl, ?_⟩) hS ?_
    rotate_left
    · (intro wq hq; go_simp); first | done | with_reducible rfl
    try simp only [Act.put, List.setIfInBounds_toArray, List.set_cons_zero, List.set_cons_succ]
    replace hS := Till.list 15 hS
    refine take_w (i := 16) (v := ?_) (some 11) rfl (by kernel_rfl) rfl (fun _ _ _ h => h) (Or.inl ⟨by rfl, ?_⟩) hS ?_
    rotate_left
    · (intro wq hq; go_simp); first | done | with_reducible rfl
    try simp only [Act.put, List.setIfInBounds_toArray, List.set_cons_zero, List.set_cons_succ]
    replace hS := Till.list 16 hS
    refine done_g (by kernel_rfl) (NoPanic.normal ?_) _
    clear hS
    clear bq st1 st2
    go_wp2_with fail
    refine wp_region_noPanic ?_
    refine region_g 22 (Ext (World.drew _)) (by kernel_rfl) (Ext.refl _) (fun hS => ?_)
    refine take_w (i := 0) (v := ?_) (some 49) rfl (by kernel_rfl) rfl (fun _ _ _ h => h) (Or.inl ⟨by rfl, ?_⟩) hS ?_
    rotate_left
    · (intro wq hq; go_simp); first | done | with_reducible rfl
    try simp only [Act.put, List.setIfInBounds_toArray, List.set_cons_zero, List.set_cons_succ]
    replace hS := Till.list 0 hS
    refine take_w (i := 1) (v := ?_) (some 50) rfl (by kernel_rfl) rfl (fun _ _ _ h => h) (Or.inl ⟨by rfl, ?_⟩) hS ?_
    rotate_left
    · (intro wq hq; go_simp); first | done | with_reducible rfl
    try simp only [Act.put, List.setIfInBounds_toArray, List.set_cons_zero, List.set_cons_succ]
    replace hS := Till.list 1 hS
    refine take_w (i := 2) (v := ?_) (some 51) rfl (by kernel_rfl) rfl (fun _ _ _ h => h) (Or.inl ⟨by rfl, ?_⟩) hS ?_
    rotate_left
    · (intro wq hq; go_simp); first | done | with_reducible rfl
    try simp only [Act.put, List.setIfInBounds_toArray, List.set_cons_zero, List.set_cons_succ]
    replace hS := Till.list 2 hS
    refine take_w (i := 3) (v := ?_) (some 52) rfl (by kernel_rfl) rfl (fun _ _ _ h => h) (Or.inl ⟨by rfl, ?_⟩) hS ?_
    rotate_left
    · (intro wq hq; go_simp); first | done | with_reducible rfl
    try simp only [Act.put, List.setIfInBounds_toArray, List.set_cons_zero, List.set_cons_succ]
    replace hS := Till.list 3 hS
    refine take_w (i := 4) (v := ?_) (some 53) rfl (by kernel_rfl) rfl (fun _ _ _ h => h) (Or.inl ⟨by rfl, ?_⟩) hS ?_
    rotate_left
    · (intro wq hq; go_simp); first | done | with_reducible rfl
    try simp only [Act.put, List.setIfInBounds_toArray, List.set_cons_zero, List.set_cons_succ]
    replace hS := Till.list 4 hS
    refine take_w (i := 5) (v := ?_) (some 54) rfl (by kernel_rfl) rfl (fun _ _ _ h => h) (Or.inl ⟨by rfl, ?_⟩) hS ?_
    rotate_left
    · (intro wq hq; go_simp); first | done | with_reducible rfl
    try simp only [Act.put, List.setIfInBounds_toArray, List.set_cons_zero, List.set_cons_succ]
    replace hS := Till.list 5 hS
    refine take_w (i := 8) (v := ?_) (some 57) rfl (by kernel_rfl) rfl (fun _ _ _ h => h) (Or.inl ⟨by rfl, ?_⟩) hS ?_
    rotate_left
    · (intro wq hq; go_simp); first | done | with_reducible rfl
    try simp only [Act.put, List.setIfInBounds_toArray, List.set_cons_zero, List.set_cons_succ]
    replace hS := Till.list 8 hS
    refine ready_g (rs := [6]) (by kernel_rfl) (by simp) ?_
    refine AllReadyG.cons rfl (fun Kont hK => ?_) AllReadyG.nil
    go_simp
    refine (putT_any A N C l _ hv.drew hr (by omega)).mono ?_
    rintro e w9 ⟨vx, rfl, ox, hb9⟩
    obtain ⟨ar, cr, rfl, -, -, br, -⟩ := ox.bvn HPB.out _ rfl
    replace hv := hv.drew.below hb9
    replace hb1 := Below.then hb1.drew hb9
    refine hK.out _ _ (Or.inr ((hS.get (by kernel_rfl)).trans (Ext.below hb9))) (fun hS0 => ?_)
    clear hK Kont
    try simp only [Act.put, List.setIfInBounds_toArray, List.set_cons_zero, List.set_cons_succ]
    clear hS
    refine now_t (by kernel_rfl) hS0 (fun hS => ?_)
    clear hS0
    clear hb9 ox
    refine take_n (i := 7) (v := .string (strOfNums (putT l))) (some 56) rfl (by kernel_rfl) rfl (fun _ _ _ h => h) (Or.inl ⟨by rfl, ?_⟩) hS ?_
    · (intro wq hq; (have hcv := conv_any (br.ext hq) cr; go_simp))
    try simp only [Act.put, List.setIfInBounds_toArray, List.set_cons_zero, List.set_cons_succ]
    replace hS := Till.list 7 hS
    refine ready_g (rs := [9]) (by kernel_rfl) (by simp) ?_
    refine AllReadyG.cons rfl (fun Kont hK => ?_) AllReadyG.nil
    go_simp
    refine (rputT_any A N C l _ hv hr (by omega)).mono ?_
    rintro e w10 ⟨vy, rfl, oy, hb10⟩
    obtain ⟨as', cs, rfl, -, -, bs, -⟩ := oy.bvn HPB.out _ rfl
    replace hb1 := Below.then hb1 hb10
    refine hK.out _ _ (Or.inr ((hS.get (by kernel_rfl)).trans (Ext.below hb10))) (fun hS0 => ?_)
    clear hK Kont
    try simp only [Act.put, List.setIfInBounds_toArray, List.set_cons_zero, List.set_cons_succ]
    clear hS
    refine now_t (by kernel_rfl) hS0 (fun hS => ?_)
    clear hS0
    clear hb10 oy br
    refine take_n (i := 10) (v := .string (strOfNums (putT l))) (some 59) rfl (by kernel_rfl) rfl (fun _ _ _ h => h) (Or.inl ⟨by rfl, ?_⟩) hS ?_
    · (intro wq hq; (have hcv := conv_any (bs.ext hq) cs; go_simp))
    try simp only [Act.put, List.setIfInBounds_toArray, List.set_cons_zero, List.set_cons_succ]
    replace hS := Till.list 10 hS
    refine take_w (i := 11) (v := ?_) (some 60) rfl (by kernel_rfl) rfl (fun _ _ _ h => h) (Or.inl ⟨by rfl, ?_⟩) hS ?_
    rotate_left
    · (intro wq hq; go_simp); first | done | with_reducible rfl
    try simp only [Act.put, List.setIfInBounds_toArray, List.set_cons_zero, List.set_cons_succ]
    replace hS := Till.list 11 hS
    refine take_w (i := 12) (v := ?_) (some 61) rfl (by kernel_rfl) rfl (fun _ _ _ h => h) (Or.inl ⟨by rfl, ?_⟩) hS ?_
    rotate_left
    · (intro wq hq; go_simp); first | done | with_reducible rfl
    try simp only [Act.put, List.setIfInBounds_toArray, List.set_cons_zero, List.set_cons_succ]
    replace hS := Till.list 12 hS
    refine take_w (i := 13) (v := ?_) (some 62) rfl (by kernel_rfl) rfl (fun _ _ _ h => h) (Or.inl ⟨by rfl, ?_⟩) hS ?_
    rotate_left
    · (intro wq hq; go_simp); first | done | with_reducible rfl
    try simp only [Act.put, List.setIfInBounds_toArray, List.set_cons_zero, List.set_cons_succ]
    replace hS := Till.list 13 hS
    refine take_w (i := 14) (v := ?_) (some 63) rfl (by kernel_rfl) rfl (fun _ _ _ h => h) (Or.inl ⟨by rfl, ?_⟩) hS ?_
    rotate_left
    · (intro wq hq; go_simp); first | done | with_reducible rfl
    try simp only [Act.put, List.setIfInBounds_toArray, List.set_cons_zero, List.set_cons_succ]
    replace hS := Till.list 14 hS
    refine take_w (i := 15) (v := ?_) (some 64) rfl (by kernel_rfl) rfl (fun _ _ _ h => h) (Or.inl ⟨by rfl, ?_⟩) hS ?_
    rotate_left
    · (intro wq hq; go_simp); first | done | with_reducible rfl
    try simp only [Act.put, List.setIfInBounds_toArray, List.set_cons_zero, List.set_cons_succ]
    replace hS := Till.list 15 hS
    refine take_w (i := 16) (v := ?_) (some 65) rfl (by kernel_rfl) rfl (fun _ _ _ h => h) (Or.inl ⟨by rfl, ?_⟩) hS ?_
    rotate_left
    · (intro wq hq; go_simp); first | done | with_reducible rfl
    try simp only [Act.put, List.setIfInBounds_toArray, List.set_cons_zero, List.set_cons_succ]
    replace hS := Till.list 16 hS
    refine take_w (i := 17) (v := ?_) (some 66) rfl (by kernel_rfl) rfl (fun _ _ _ h => h) (Or.inl ⟨by rfl, ?_⟩) hS ?_
    rotate_left
    · (intro wq hq; go_simp); first | done | with_reducible rfl
    try simp only [Act.put, List.setIfInBounds_toArray, List.set_cons_zero, List.set_cons_succ]
    replace hS := Till.list 17 hS
    refine take_w (i := 18) (v := ?_) (some 67) rfl (by kernel_rfl) rfl (fun _ _ _ h => h) (Or.inl ⟨by rfl, ?_⟩) hS ?_
    rotate_left
    · (intro wq hq; go_simp); first | done | with_reducible rfl
    try simp only [Act.put, List.setIfInBounds_toArray, List.set_cons_zero, List.set_cons_succ]
    replace hS := Till.list 18 hS
    refine take_w (i := 19) (v := ?_) (some 68) rfl (by kernel_rfl) rfl (fun _ _ _ h => h) (Or.inl ⟨by rfl, ?_⟩) hS ?_
    rotate_left
    · (intro wq hq; go_simp); first | done | with_reducible rfl
    try simp only [Act.put, List.setIfInBounds_toArray, List.set_cons_zero, List.set_cons_succ]
    replace hS := Till.list 19 hS
    refine take_w (i := 20) (v := ?_) (some 69) rfl (by kernel_rfl) rfl (fun _ _ _ h => h) (Or.inl ⟨by rfl, ?_⟩) hS ?_
    rotate_left
    · (intro wq hq; go_simp); first | done | with_reducible rfl
    try simp only [Act.put, List.setIfInBounds_toArray, List.set_cons_zero, List.set_cons_succ]
    replace hS := Till.list 20 hS
    refine take_w (i := 21) (v := ?_) (some 4) rfl (by kernel_rfl) rfl (fun _ _ _ h => h) (Or.inl ⟨by rfl, ?_⟩) hS ?_
    rotate_left
    · (intro wq hq; go_simp); first | done | with_reducible rfl
    try simp only [Act.put, List.setIfInBounds_toArray, List.set_cons_zero, List.set_cons_succ]
    replace hS := Till.list 21 hS
    refine done_g (by kernel_rfl) (NoPanic.normal ?_) _
    clear hS
    go_wp2_with fail
    go_ret
    exact ⟨rfl, hb1⟩
end Go.Proofs.Ytmoppmifhhnolaa
