/- Texts that belong together, one behind the other: QAh, W7s, H7, H8v. -/
import Derived.Test.YtiigcjncpjdkcaaGrnB
import Derived.Test.YtiigcjncpjdkcaaSchC
import Derived.Test.YtiigcjncpjdkcaaVals
import Derived.Test.YtiigcjncpjdkcaaBase
/- The statements' own helpers of stage 10: made, shown. -/
namespace Go.Proofs.Ytiigcjncpjdkcaa
open Go.ChangeShapes Go.WideShapes Go.ChangeAt Go.RowKit
set_option linter.unusedVariables false
set_option maxRecDepth 4000

set_option maxHeartbeats 2000000 in
theorem madeA_any (l0 l1 l2 l3 l4 l5 l6 l7 n keys mode grain : Int) (w : World) (hls : U8s [l0, l1, l2, l3, l4, l5, l6, l7]) (hn : 0 ≤ n ∧ n ≤ 255) (hk : 0 ≤ keys ∧ keys ≤ 255) (hm : 0 ≤ mode ∧ mode ≤ 255) (hg : 0 ≤ grain ∧ grain ≤ 255) :
    Calls Try.prog 8 #[ShV l0 l1 l2 l3 l4 l5 l6 l7 n keys mode grain] w fun e w' => MadeE w w' [l0, l1, l2, l3, l4, l5, l6, l7] n keys mode grain e := by
  go_enter Try.func8, Try.ntmps8
  go_wp2_with fail
  refine (rmade_any l0 l1 l2 l3 l4 l5 l6 l7 n keys mode grain _ hls hn hk hm hg).mono ?_
  rintro e w1 ⟨A, C, rfl, ho, hb⟩
  have t1 := Bk.new (w.alloc (.cells #[.int .u8 l0, .int .u8 l1, .int .u8 l2, .int .u8 l3, .int .u8 l4, .int .u8 l5, .int .u8 l6, .int .u8 l7, .int .u8 n, .int .u8 keys, .int .u8 mode, .int .u8 grain] 24)) #[.slice none 0 0, .int .i64 0, .int .i64 0, .int .i64 0] 29
  rw [heap_alloc] at t1
  have t1 := t1.below hb
  have hbw := after2 hb
  rw [heap_alloc, heap_alloc] at ho
  clear hb
  obtain ⟨d0, d1, d2, d3⟩ := t1.sx
  have f0 := t1.free 0
  have f1 := t1.free 1
  have f2 := t1.free 2
  have f3 := t1.free 3
  go_wp2_with fail
  have r := t1.put4 (.slice A (1 + n % 8).toNat C) (.int .i64 (1 + keys % (1 + n % 8))) (.int .i64 (1 + mode % 3)) (.int .i64 (1 + grain % 8))
  have ho4 := (((ho.set (b := w.heap.size + 1) (i := 0) (by omega) (.slice A (1 + n % 8).toNat C)).set (b := w.heap.size + 1) (i := 1) (by omega) (.int .i64 (1 + keys % (1 + n % 8)))).set (b := w.heap.size + 1) (i := 2) (by omega) (.int .i64 (1 + mode % 3))).set (b := w.heap.size + 1) (i := 3) (by omega) (.int .i64 (1 + grain % 8))
  exact bodyPost_ret (res_ss rfl _ _ rfl r.sx) rfl ⟨_, _, rfl, ho4.lower (by omega), (((hbw.setCell (by simp) _).setCell (by simp) _).setCell (by simp) _).setCell (by simp) _⟩

theorem madeA_good {l0 l1 l2 l3 l4 l5 l6 l7 n keys mode grain : Int} (h : ShW l0 l1 l2 l3 l4 l5 l6 l7 n keys mode grain) (w : World) : Calls Try.prog 8 #[ShV l0 l1 l2 l3 l4 l5 l6 l7 n keys mode grain] w fun e w' => MadeG w w' e :=
  (madeA_any l0 l1 l2 l3 l4 l5 l6 l7 n keys mode grain w h.1 h.2.1 h.2.2.1 h.2.2.2.1 h.2.2.2.2).mono fun e w' he => he.good rfl h.2.1.1 h.2.2.1.1 h.2.2.2.1.1 h.2.2.2.2.1
/-- the example's row -/
abbrev nA : RowV := [(0, ⟨#[]⟩)]
/-- one more row, in memory of its own -/
theorem PR.oneA {w : World} {ps : List P9} (h : PR w ps) (g : Nat) (hg : g = w.heap.size) : PR (w.alloc (.cells #[.int .i64 0, .string ⟨#[]⟩] 48)) (ps ++ [((some ⟨g, 0, none⟩, 1, 1), nA)]) := by
  subst hg
  refine PR.app (h.below (Joins.below_alloc1 _ _)) (fun p hp => ?_)
  rw [List.mem_singleton.1 hp]
  exact RowAt.of (SV.lit (k := 2) w (vcells (nA)) 1 48 rfl (vcells_one _)) (Nat.le_refl _) (Nat.le_refl _) (show (1 : Nat) ≤ maxLen by unfold maxLen; decide)
set_option maxHeartbeats 2000000 in
theorem shownA_is (w : World) : Calls Try.prog 7 #[] w fun e w' => e = .returned (.bool true) ∧ Below w.heap.size w w' := by
  have sx := (Sx.new (w.alloc (.cells #[.int .i64 1] 3)) (some ⟨w.heap.size, 0, none⟩) 1 1 1 1 2 29)
  rw [heap_alloc] at sx
  have hb1 := Joins.below_alloc2 w (.cells #[.int .i64 1] 3) (.cells #[.slice (some ⟨w.heap.size, 0, none⟩) 1 1, .int .i64 1, .int .i64 1, .int .i64 2] 29)
  have hs1 : ((w.alloc (.cells #[.int .i64 1] 3)).alloc (.cells #[.slice (some ⟨w.heap.size, 0, none⟩) 1 1, .int .i64 1, .int .i64 1, .int .i64 2] 29)).heap.size = w.heap.size + 1 + 1 := by rw [heap_alloc, heap_alloc]
  go_enter Try.func7, Try.ntmps7
  go_wp2_with fail
  generalize (w.alloc (.cells #[.int .i64 1] 3)).alloc (.cells #[.slice (some ⟨w.heap.size, 0, none⟩) 1 1, .int .i64 1, .int .i64 1, .int .i64 2] 29) = W at *
  have p0 : PR W [] := fun p hp => by cases hp
  have p5 := (((((p0.oneA (w.heap.size + 1 + 1) (by simp [hs1])).oneA (w.heap.size + 1 + 1 + 1) (by simp [hs1])).oneA (w.heap.size + 1 + 1 + 1 + 1) (by simp [hs1])).oneA (w.heap.size + 1 + 1 + 1 + 1 + 1) (by simp [hs1])).oneA (w.heap.size + 1 + 1 + 1 + 1 + 1 + 1) (by simp [hs1]))
  have hs5 : ((((((W.alloc (.cells #[.int .i64 0, .string ⟨#[]⟩] 48)).alloc (.cells #[.int .i64 0, .string ⟨#[]⟩] 48)).alloc (.cells #[.int .i64 0, .string ⟨#[]⟩] 48)).alloc (.cells #[.int .i64 0, .string ⟨#[]⟩] 48)).alloc (.cells #[.int .i64 0, .string ⟨#[]⟩] 48))).heap.size = w.heap.size + 1 + 1 + 1 + 1 + 1 + 1 + 1 := by simp [hs1]
  have sx5 := (((((sx.alloc (.cells #[.int .i64 0, .string ⟨#[]⟩] 48)).alloc (.cells #[.int .i64 0, .string ⟨#[]⟩] 48)).alloc (.cells #[.int .i64 0, .string ⟨#[]⟩] 48)).alloc (.cells #[.int .i64 0, .string ⟨#[]⟩] 48)).alloc (.cells #[.int .i64 0, .string ⟨#[]⟩] 48))
  have hb5 := (((((hb1.alloc (by have := hb1.size; simp; omega) (.cells #[.int .i64 0, .string ⟨#[]⟩] 48)).alloc (by have := hb1.size; simp; omega) (.cells #[.int .i64 0, .string ⟨#[]⟩] 48)).alloc (by have := hb1.size; simp; omega) (.cells #[.int .i64 0, .string ⟨#[]⟩] 48)).alloc (by have := hb1.size; simp; omega) (.cells #[.int .i64 0, .string ⟨#[]⟩] 48)).alloc (by have := hb1.size; simp; omega) (.cells #[.int .i64 0, .string ⟨#[]⟩] 48))
  clear p0 sx hb1 hs1
  generalize (((((W.alloc (.cells #[.int .i64 0, .string ⟨#[]⟩] 48)).alloc (.cells #[.int .i64 0, .string ⟨#[]⟩] 48)).alloc (.cells #[.int .i64 0, .string ⟨#[]⟩] 48)).alloc (.cells #[.int .i64 0, .string ⟨#[]⟩] 48)).alloc (.cells #[.int .i64 0, .string ⟨#[]⟩] 48)) = W5 at *
  obtain ⟨ps, hps⟩ : ∃ ps : List P9, [((some ⟨w.heap.size + 1 + 1, 0, none⟩, 1, 1), nA), ((some ⟨w.heap.size + 1 + 1 + 1, 0, none⟩, 1, 1), nA), ((some ⟨w.heap.size + 1 + 1 + 1 + 1, 0, none⟩, 1, 1), nA), ((some ⟨w.heap.size + 1 + 1 + 1 + 1 + 1, 0, none⟩, 1, 1), nA), ((some ⟨w.heap.size + 1 + 1 + 1 + 1 + 1 + 1, 0, none⟩, 1, 1), nA)] = ps := ⟨_, rfl⟩
  have hpm : ps.map (·.2) = [nA, nA, nA, nA, nA] := by rw [← hps]; rfl
  have p5 : PR W5 ps := by rw [← hps]; exact p5
  have hrs : SV 1 (W5.alloc (.cells #[.slice (some ⟨w.heap.size + 1 + 1, 0, none⟩) 1 1, .slice (some ⟨w.heap.size + 1 + 1 + 1, 0, none⟩) 1 1, .slice (some ⟨w.heap.size + 1 + 1 + 1 + 1, 0, none⟩) 1 1, .slice (some ⟨w.heap.size + 1 + 1 + 1 + 1 + 1, 0, none⟩) 1 1, .slice (some ⟨w.heap.size + 1 + 1 + 1 + 1 + 1 + 1, 0, none⟩) 1 1] 43)) (some ⟨w.heap.size + 1 + 1 + 1 + 1 + 1 + 1 + 1, 0, none⟩) 5 (pc ps) := by
    rw [← hps]
    exact SV.lit' (k := 1) W5 (pc _) 5 43 rfl (pc_one _) _ hs5.symm
  have sx6 := sx5.alloc (.cells #[.slice (some ⟨w.heap.size + 1 + 1, 0, none⟩) 1 1, .slice (some ⟨w.heap.size + 1 + 1 + 1, 0, none⟩) 1 1, .slice (some ⟨w.heap.size + 1 + 1 + 1 + 1, 0, none⟩) 1 1, .slice (some ⟨w.heap.size + 1 + 1 + 1 + 1 + 1, 0, none⟩) 1 1, .slice (some ⟨w.heap.size + 1 + 1 + 1 + 1 + 1 + 1, 0, none⟩) 1 1] 43)
  have hb6 := hb5.alloc (by have := hb5.size; omega) (.cells #[.slice (some ⟨w.heap.size + 1 + 1, 0, none⟩) 1 1, .slice (some ⟨w.heap.size + 1 + 1 + 1, 0, none⟩) 1 1, .slice (some ⟨w.heap.size + 1 + 1 + 1 + 1, 0, none⟩) 1 1, .slice (some ⟨w.heap.size + 1 + 1 + 1 + 1 + 1, 0, none⟩) 1 1, .slice (some ⟨w.heap.size + 1 + 1 + 1 + 1 + 1 + 1, 0, none⟩) 1 1] 43)
  have hv := RVs.of hrs (PR.below p5 (Joins.below_alloc1 W5 _))
  rw [hpm] at hv
  clear hrs p5 hs5 hps hpm sx5 hb5
  generalize W5.alloc (.cells #[.slice (some ⟨w.heap.size + 1 + 1, 0, none⟩) 1 1, .slice (some ⟨w.heap.size + 1 + 1 + 1, 0, none⟩) 1 1, .slice (some ⟨w.heap.size + 1 + 1 + 1 + 1, 0, none⟩) 1 1, .slice (some ⟨w.heap.size + 1 + 1 + 1 + 1 + 1, 0, none⟩) 1 1, .slice (some ⟨w.heap.size + 1 + 1 + 1 + 1 + 1 + 1, 0, none⟩) 1 1] 43) = W6 at *
  refine (gsplit_any (some ⟨w.heap.size, 0, none⟩) 1 1 1 1 2 (some ⟨w.heap.size + 1 + 1 + 1 + 1 + 1 + 1 + 1, 0, none⟩) 5 5 [nA, nA, nA, nA, nA] W6 hv (by omega) (by omega) (by omega)).mono ?_
  rw [show cntG 2 5 = 3 from rfl]
  rintro e W7 ⟨A', C', rfl, hC1, hC2, gr, hb7⟩
  obtain ⟨b, off, u0, rfl, hc0, hu0⟩ := gr.at 0 (by omega)
  obtain ⟨b', off', u2, e1, hc2, hu2⟩ := gr.at 2 (by omega)
  cases e1
  rw [splitL_at (show 0 < cntG 2 5 by decide)] at hu0
  rw [splitL_at (show 2 < cntG 2 5 by decide)] at hu2
  obtain ⟨A0, L0, C0, rfl, -, -, -, s0⟩ := hu0
  obtain ⟨A2, L2, C2, rfl, -, -, -, s2⟩ := hu2
  obtain rfl : 2 = L0 := s0.1
  obtain rfl : 1 = L2 := s2.1
  rw [Nat.add_zero] at hc0
  have hb8 := Below.then hb6 hb7
  clear s0 s2 gr hb7 hv sx6
  go_wp2_with fail
  go_ret
  exact ⟨rfl, hb8⟩
end Go.Proofs.Ytiigcjncpjdkcaa
/- The statements' own Same of two lists of values (stage 7's reference). -/
namespace Go.Proofs.Ytiigcjncpjdkcaa
open Go.ChangeShapes Go.WideShapes Go.ChangeAt Go.RowKit
set_option linter.unusedVariables false
set_option maxRecDepth 4000

set_option maxHeartbeats 2000000 in
theorem same7_any (A : Option Addr) (N C : Nat) (l : List (Int × ByteArray)) (A' : Option Addr) (N' C' : Nat) (k : List (Int × ByteArray)) (w : World) (hv : WV w A N l) (hv' : WV w A' N' k) (hN : N ≤ 1000000) (hN' : N' ≤ 1000000) :
    Calls Try.prog 15 #[.slice A N C, .slice A' N' C'] w fun e w' => e = .returned (.bool (decide (l = k))) ∧ Below w.heap.size w w' := by
  have hl := Lib.hid (WV.len hv)
  have hl' := Lib.hid (WV.len hv')
  by_cases h1 : N = N'
  · subst h1
    go_enter Try.func15, Try.ntmps15
    go_wp2_with fail
    go_loopw [5] (fun i wr => ∃ j : Nat, j ≤ N ∧ i = .int .i64 (j : Int) ∧ Hid (∀ i, i < j → l.getD i v0 = k.getD i v0) ∧ Below w.heap.size w wr) (fun i _ => N - (intOf i).toNat)
    case atStart => exact ⟨0, by omega, rfl, Lib.hid (fun i hi => by omega), Below.refl _ _⟩
    case round =>
      obtain ⟨j, hj, rfl, HT, hbel⟩ := hrel
      by_cases hlt : j < N
      · obtain ⟨b, off, rfl, hd1, hd2⟩ := WV.at hv j hlt
        obtain ⟨b', off', rfl, he1, he2⟩ := WV.at hv' j hlt
        replace hd1 := keepc hd1 hbel
        replace hd2 := keepc hd2 hbel
        replace he1 := keepc he1 hbel
        replace he2 := keepc he2 hbel
        have hji : (j : Int) < (N : Int) := by omega
        generalize hx1 : l.getD j v0 = y at hd1 hd2
        generalize hy1 : k.getD j v0 = z at he1 he2
        have HX := Lib.hid hx1
        have HY := Lib.hid hy1
        clear hx1 hy1 hv hv'
        go_wp2_with fail
        refine wp_region_noPanic ?_
        refine region_g 9 (Ext (World.drew _)) (by kernel_rfl) (Ext.refl _) (fun hS => ?_)
        refine take_w (i := 0) (v := ?_) (some 17) rfl (by kernel_rfl) rfl (fun _ _ _ h => h) (Or.inl ⟨by rfl, ?_⟩) hS ?_
        rotate_left
        · (intro wq hq; go_simp); first | done | with_reducible rfl
        try simp only [Act.put, List.setIfInBounds_toArray, List.set_cons_zero, List.set_cons_succ]
        replace hS := Till.list 0 hS
        refine take_w (i := 1) (v := ?_) (some 18) rfl (by kernel_rfl) rfl (fun _ _ _ h => h) (Or.inl ⟨by rfl, ?_⟩) hS ?_
        rotate_left
        · (intro wq hq; go_simp); first | done | with_reducible rfl
        try simp only [Act.put, List.setIfInBounds_toArray, List.set_cons_zero, List.set_cons_succ]
        replace hS := Till.list 1 hS
        refine take_w (i := 4) (v := ?_) (some 21) rfl (by kernel_rfl) rfl (fun _ _ _ h => h) (Or.inl ⟨by rfl, ?_⟩) hS ?_
        rotate_left
        · (intro wq hq; go_simp); first | done | with_reducible rfl
        try simp only [Act.put, List.setIfInBounds_toArray, List.set_cons_zero, List.set_cons_succ]
        replace hS := Till.list 4 hS
        refine take_w (i := 5) (v := ?_) (some 22) rfl (by kernel_rfl) rfl (fun _ _ _ h => h) (Or.inl ⟨by rfl, ?_⟩) hS ?_
        rotate_left
        · (intro wq hq; go_simp); first | done | with_reducible rfl
        try simp only [Act.put, List.setIfInBounds_toArray, List.set_cons_zero, List.set_cons_succ]
        replace hS := Till.list 5 hS
        refine take_w (i := 2) (v := ?_) (some 19) rfl (by kernel_rfl) rfl (fun _ _ _ h => h) (Or.inl ⟨by rfl, ?_⟩) hS ?_
        rotate_left
        · (intro wq hq; go_simp); first | done | with_reducible rfl
        try simp only [Act.put, List.setIfInBounds_toArray, List.set_cons_zero, List.set_cons_succ]
        replace hS := Till.list 2 hS
        refine take_w (i := 6) (v := ?_) (some 23) rfl (by kernel_rfl) rfl (fun _ _ _ h => h) (Or.inl ⟨by rfl, ?_⟩) hS ?_
        rotate_left
        · (intro wq hq; go_simp); first | done | with_reducible rfl
        try simp only [Act.put, List.setIfInBounds_toArray, List.set_cons_zero, List.set_cons_succ]
        replace hS := Till.list 6 hS
        refine take_n (i := 3) (v := ?_) (some 20) rfl (by kernel_rfl) rfl (fun _ _ _ h => h) (Or.inl ⟨by rfl, ?_⟩) hS ?_
        rotate_left
        · (intro wq hq; have q0 := hq _ _ _ hd1; have q1 := hq _ _ _ hd2; have q2 := hq _ _ _ he1; have q3 := hq _ _ _ he2; go_simp); first | done | with_reducible rfl
        try simp only [Act.put, List.setIfInBounds_toArray, List.set_cons_zero, List.set_cons_succ]
        replace hS := Till.list 3 hS
        refine take_n (i := 7) (v := ?_) (some 24) rfl (by kernel_rfl) rfl (fun _ _ _ h => h) (Or.inl ⟨by rfl, ?_⟩) hS ?_
        rotate_left
        · (intro wq hq; have q0 := hq _ _ _ hd1; have q1 := hq _ _ _ hd2; have q2 := hq _ _ _ he1; have q3 := hq _ _ _ he2; go_simp); first | done | with_reducible rfl
        try simp only [Act.put, List.setIfInBounds_toArray, List.set_cons_zero, List.set_cons_succ]
        replace hS := Till.list 7 hS
        refine take_n (i := 8) (v := .bool (!decide (y = z))) (some 25) rfl (by kernel_rfl) rfl (fun _ _ _ h => h) (Or.inl ⟨by rfl, ?_⟩) hS ?_
        · (intro wq hq; (go_simp; exact eqv_ne y z wq))
        try simp only [Act.put, List.setIfInBounds_toArray, List.set_cons_zero, List.set_cons_succ]
        replace hS := Till.list 8 hS
        refine done_g (by kernel_rfl) (NoPanic.normal ?_) _
        clear hS
        clear hd1 hd2 he1 he2
        by_cases hxy : y = z
        · have HT' : Hid (∀ i, i < j + 1 → l.getD i v0 = k.getD i v0) := Lib.hid (fun i hi => by
            by_cases hij : i < j
            · exact HT.out i hij
            · obtain rfl : i = j := by omega
              rw [HX.out, HY.out, hxy])
          rw [decide_eq_true hxy]
          clear hxy
          go_wp2_with fail
          go_roundw
          case rel => exact ⟨j + 1, by omega, by go_num, HT', hbel.drew⟩
          case measure => simp [intOf]; omega
        · have HF : Hid (decide (l = k) = false) := Lib.hid (decide_eq_false (fun h => hxy (by rw [← HX.out, ← HY.out, h])))
          rw [decide_eq_false hxy]
          clear hxy
          go_wp2_with fail
          go_ret
          exact ⟨by rw [HF.out]; rfl, hbel.drew⟩
      · obtain rfl : j = N := by omega
        have HF : Hid (decide (l = k) = true) := Lib.hid (decide_eq_true (listV_getD (by rw [hl.out, hl'.out]) (fun i hi => HT.out i (by rw [← hl.out]; exact hi))))
        go_wp2_with fail
        go_ret
        exact ⟨by rw [HF.out]; rfl, hbel⟩
  · have hne : ((N : Int) == (N' : Int)) = false := by rw [beq_eq_false_iff_ne]; omega
    have HF : Hid (decide (l = k) = false) := Lib.hid (decide_eq_false (fun h => h1 (by rw [← hl.out, ← hl'.out, h])))
    clear hv hv'
    go_enter Try.func15, Try.ntmps15
    go_wp2_with fail
    go_ret
    exact ⟨by rw [HF.out]; rfl, Below.refl _ _⟩
end Go.Proofs.Ytiigcjncpjdkcaa
/- How the statements' arguments come in: slices of values, ints. -/
namespace Go.Proofs.Ytiigcjncpjdkcaa
open Go.ChangeShapes Go.WideShapes Go.ChangeAt Go.RowKit
set_option linter.unusedVariables false
set_option maxRecDepth 4000

section
variable {H : Type} {enc : TypeId × Value → H} {w : World} {base fuel : Nat} {spare : Nat → Bool} {held : Bool}
theorem open_gint {r : Reach} {b0 : Nat} {v : Value} {d : DataW H} {p : List MemPlace} (hv : Value.okWide Try.prog w r b0 3 v) (h : DataW.Trod enc Try.prog w base spare held 3 v d p) : ∃ a : Int, v = .int .i64 a ∧ (-9223372036854775808 ≤ a ∧ a ≤ 9223372036854775807) := by
  obtain ⟨a, rfl, -, -, wa⟩ := open_int Try.underlying3 hv h
  exact ⟨a, rfl, bounds_i64 wa⟩
theorem open_values {r : Reach} {b0 : Nat} {v : Value} {d : DataW H} {p : List MemPlace} (hv : Value.okWide Try.prog w r b0 37 v) (h : DataW.Trod enc Try.prog w base spare held 37 v d p) :
    ∃ (A : Option Addr) (n c : Nat) (vs : List (Int × ByteArray)), v = .slice A n c ∧ WV w A n vs ∧ n ≤ maxLen ∧ RgV vs := by
  obtain ⟨a0, len0, cap0, rfl⟩ := okWide_slice Try.underlying37 hv
  obtain ⟨fuel, hf⟩ := h
  obtain ⟨A, n, c, vs, hc, h1, h2, h3, h4, h5, h6⟩ := open_vals Try.underlying37 Try.underlying48 (by kernel_rfl) rfl rfl (by kernel_rfl) (by kernel_rfl) Try.underlying2 Try.underlying9 (show DataW.trod enc Try.prog w base spare held fuel 37 [.slice a0 len0 cap0] = some (d, p) by simpa [Value.cells] using hf)
  simp only [List.cons.injEq, and_true] at hc
  exact ⟨A, n, c, vs, hc, h5, by omega, h4⟩
end
end Go.Proofs.Ytiigcjncpjdkcaa
/- How the statements' arguments come in: slices of values, with their room. -/
namespace Go.Proofs.Ytiigcjncpjdkcaa
open Go.ChangeShapes Go.WideShapes Go.ChangeAt Go.RowKit
set_option linter.unusedVariables false
set_option maxRecDepth 4000

section
variable {H : Type} {enc : TypeId × Value → H} {w : World} {base fuel : Nat} {spare : Nat → Bool} {held : Bool}
theorem open_valuesR {r : Reach} {b0 : Nat} {v : Value} {d : DataW H} {p : List MemPlace} (hv : Value.okWide Try.prog w r b0 37 v) (h : DataW.Trod enc Try.prog w base spare held 37 v d p) :
    ∃ (A : Option Addr) (n c : Nat) (vs : List (Int × ByteArray)), v = .slice A n c ∧ RowAt w (.slice A n c) vs := by
  obtain ⟨a0, len0, cap0, rfl⟩ := okWide_slice Try.underlying37 hv
  obtain ⟨fuel, hf⟩ := h
  obtain ⟨A, n, c, vs, hc, h1, h2, h3, h4, h5, h6⟩ := open_vals Try.underlying37 Try.underlying48 (by kernel_rfl) rfl rfl (by kernel_rfl) (by kernel_rfl) Try.underlying2 Try.underlying9 (show DataW.trod enc Try.prog w base spare held fuel 37 [.slice a0 len0 cap0] = some (d, p) by simpa [Value.cells] using hf)
  simp only [List.cons.injEq, and_true] at hc
  exact ⟨A, n, c, vs, hc, A, n, c, rfl, h1, h2, h3, h5, h6⟩
end
end Go.Proofs.Ytiigcjncpjdkcaa
