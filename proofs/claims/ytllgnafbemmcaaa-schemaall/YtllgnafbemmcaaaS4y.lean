/- Contracts of the document's own Batch and Put, and of the statements' own few. -/
import Derived.Test.YtllgnafbemmcaaaS4x
import Derived.Test.YtllgnafbemmcaaaS4s
import Derived.Test.YtllgnafbemmcaaaE
namespace Go.Proofs.Ytllgnafbemmcaaa
open Go.ChangeShapes Go.WideShapes Go.ChangeAt Go.RowKit
set_option linter.unusedVariables false

set_option maxHeartbeats 1000000 in
theorem rbatch_any (A : Option Addr) (N C : Nat) (ts : List Int) (k m g : Int) (R : Option Addr) (n c : Nat) (vss : List (List (Int × ByteArray))) (w : World) (hv : IV w A N ts) (hN : N ≤ maxLen) (hr : RVs w R n vss) (hn : n ≤ maxLen) :
    Calls Try.prog 20 #[SS A N C k m g, .slice R n c] w fun e w' => e = .returned (.int .i64 (batE ts vss)) ∧ Below w.heap.size w w' := by
  have hn' := hn
  unfold maxLen at hn'
  have hl := Lib.hid hr.1
  by_cases a1 : (1 : Int) ≤ (n : Int)
  · by_cases a2 : (n : Int) ≤ 64
    · have HU := Lib.hid (show upB 64 (vss.length : Int) = true by rw [hl.out]; exact decide_eq_true ⟨a1, a2⟩)
      have hx0 := Sx.new w A N C k m g 24
      have hb0 := Joins.below_alloc1 w (.cells #[.slice A N C, .int .i64 k, .int .i64 m, .int .i64 g] 24)
      go_enter Try.func20, Try.ntmps20
      go_wp2_with fail
      generalize w.alloc (.cells #[.slice A N C, .int .i64 k, .int .i64 m, .int .i64 g] 24) = w0 at *
      go_loopw [5] (fun i wr => ∃ j : Nat, j ≤ n ∧ i = .int .i64 (j : Int) ∧ Hid (∀ i, i < j → rowB ts (vss.getD i []) = true) ∧ Below w0.heap.size w0 wr) (fun i _ => n - (intOf i).toNat)
      case atStart => exact ⟨0, by omega, rfl, Lib.hid (fun i hi => by omega), Below.refl _ _⟩
      case round =>
        obtain ⟨j, hj, rfl, HT, hbel⟩ := hrel
        have hx := hx0.below hbel
        have hbw := Below.then hb0 hbel
        clear hx0 hb0
        by_cases hlt : j < n
        · obtain ⟨b, off, A1, L1, C1, rfl, hc, hL1, hw1⟩ := hr.at j hlt
          have hc := keepc hc hbw
          have hw1 := hw1.below hbw
          have hv1 := hv.below hbw
          obtain ⟨c0, c1, c2, c3⟩ := id hx
          have hji : (j : Int) < (n : Int) := by omega
          obtain ⟨rj, hrj⟩ : ∃ rj, vss.getD j [] = rj := ⟨_, rfl⟩
          rw [hrj] at hw1
          have HRJ := Lib.hid hrj
          clear hrj
          go_wp2_with fail
          refine wp_region_noPanic ?_
          refine region_g 7 (Ext (World.drew _)) (by kernel_rfl) (Ext.refl _) (fun hS => ?_)
          refine take_n (i := 0) (v := ?_) (some 21) rfl (by kernel_rfl) rfl (fun _ _ _ h => h) (Or.inl ⟨by rfl, ?_⟩) hS ?_
          rotate_left
          · (intro wq hq; have q0 := hq _ _ _ c0; have q1 := hq _ _ _ c1; have q2 := hq _ _ _ c2; have q3 := hq _ _ _ c3; have q4 := hq _ _ _ hc; go_simp); first | done | with_reducible rfl
          try simp only [Act.put, List.setIfInBounds_toArray, List.set_cons_zero, List.set_cons_succ]
          replace hS := Till.list 0 hS
          refine take_w (i := 1) (v := ?_) (some 22) rfl (by kernel_rfl) rfl (fun _ _ _ h => h) (Or.inl ⟨by rfl, ?_⟩) hS ?_
          rotate_left
          · (intro wq hq; go_simp); first | done | with_reducible rfl
          try simp only [Act.put, List.setIfInBounds_toArray, List.set_cons_zero, List.set_cons_succ]
          replace hS := Till.list 1 hS
          refine take_w (i := 2) (v := ?_) (some 23) rfl (by kernel_rfl) rfl (fun _ _ _ h => h) (Or.inl ⟨by rfl, ?_⟩) hS ?_
          rotate_left
          · (intro wq hq; go_simp); first | done | with_reducible rfl
          try simp only [Act.put, List.setIfInBounds_toArray, List.set_cons_zero, List.set_cons_succ]
          replace hS := Till.list 2 hS
          refine take_w (i := 3) (v := ?_) (some 24) rfl (by kernel_rfl) rfl (fun _ _ _ h => h) (Or.inl ⟨by rfl, ?_⟩) hS ?_
          rotate_left
          · (intro wq hq; go_simp); first | done | with_reducible rfl
          try simp only [Act.put, List.setIfInBounds_toArray, List.set_cons_zero, List.set_cons_succ]
          replace hS := Till.list 3 hS
          refine take_n (i := 4) (v := ?_) (some 25) rfl (by kernel_rfl) rfl (fun _ _ _ h => h) (Or.inl ⟨by rfl, ?_⟩) hS ?_
          rotate_left
          · (intro wq hq; have q0 := hq _ _ _ c0; have q1 := hq _ _ _ c1; have q2 := hq _ _ _ c2; have q3 := hq _ _ _ c3; have q4 := hq _ _ _ hc; go_simp); first | done | with_reducible rfl
          try simp only [Act.put, List.setIfInBounds_toArray, List.set_cons_zero, List.set_cons_succ]
          replace hS := Till.list 4 hS
          refine ready_g (rs := [5]) (by kernel_rfl) (by simp) ?_
          refine AllReadyG.cons rfl (fun Kont hK => ?_) AllReadyG.nil
          go_simp
          refine (rrow_any A N C ts k m g A1 L1 C1 rj _ hv1.drew hN hw1.drew hL1).mono ?_
          rintro e w1 ⟨rfl, hb1⟩
          refine hK.out _ _ (Or.inr ((hS.get (by kernel_rfl)).trans (Ext.below hb1))) (fun hS0 => ?_)
          clear hK Kont
          try simp only [Act.put, List.setIfInBounds_toArray, List.set_cons_zero, List.set_cons_succ]
          clear hS
          have hS := hS0
          clear hS0
          refine take_w (i := 6) (v := ?_) (some 6) rfl (by kernel_rfl) rfl (fun _ _ _ h => h) (Or.inl ⟨by rfl, ?_⟩) hS ?_
          rotate_left
          · (intro wq hq; go_simp); first | done | with_reducible rfl
          try simp only [Act.put, List.setIfInBounds_toArray, List.set_cons_zero, List.set_cons_succ]
          replace hS := Till.list 6 hS
          refine done_g (by kernel_rfl) (NoPanic.normal ?_) _
          clear hS
          have hb' := Below.then hbel.drew hb1
          have hbw' := Below.then hbw.drew hb1
          clear hb1 hc hw1 hv1 c0 c1 c2 c3 hbel hbw hx
          cases h5 : rowB ts rj
          · have no := Lib.hid (bat_row (ts := ts) (vss := vss) (i := j) HU.out (by rw [hl.out]; exact hlt) (by rw [HRJ.out]; exact h5))
            clear h5
            go_wp2_with fail
            go_ret
            exact ⟨ret_int no.out.symm, hbw'⟩
          · have HT' : Hid (∀ i, i < j + 1 → rowB ts (vss.getD i []) = true) := Lib.hid (fun i hi => by
              by_cases hij : i < j
              · exact HT.out i hij
              · obtain rfl : i = j := by omega
                rw [HRJ.out]; exact h5)
            clear h5
            go_wp2_with fail
            go_roundw
            case rel => exact ⟨j + 1, by omega, by go_num, HT', hb'⟩
            case measure => simp [intOf]; omega
        · obtain rfl : j = n := by omega
          have ok := Lib.hid (bat_ok (ts := ts) (vss := vss) HU.out (fun i hi => HT.out i (by rw [← hl.out]; exact hi)))
          go_wp2_with fail
          go_ret
          exact ⟨ret_int ok.out.symm, hbw⟩
    · skip
      have no := Lib.hid (bat_size (ts := ts) (vss := vss) (by rw [hl.out]; exact decide_eq_false (by omega)))
      go_enter Try.func20, Try.ntmps20
      go_wp2_with fail
      go_ret
      exact ⟨ret_int no.out.symm, Joins.below_alloc1 _ _⟩
  · skip
    have no := Lib.hid (bat_size (ts := ts) (vss := vss) (by rw [hl.out]; exact decide_eq_false (by omega)))
    go_enter Try.func20, Try.ntmps20
    go_wp2_with fail
    go_ret
    exact ⟨ret_int no.out.symm, Joins.below_alloc1 _ _⟩
set_option maxHeartbeats 2000000 in
theorem rput_any (A : Option Addr) (N C : Nat) (ts : List Int) (k m g : Int) (w : World) (hv : IV w A N ts) (hk : checkB ts k m g = true) :
    Calls Try.prog 22 #[SS A N C k m g] w fun e w' => ∃ v, e = .returned v ∧ OW w' w.heap.size v (putS ts k m g) ∧ Below w.heap.size w w' := by
  have hl := Lib.hid (IV.len hv)
  obtain ⟨q1, q2, q3, q4, q5, q6, q7, q8, -⟩ := check_is hk
  rw [hl.out] at q1 q2 q4
  have HK := Lib.hid hk
  clear hk
  have hx := Sx.new w A N C k m g 24
  go_enter Try.func22, Try.ntmps22
  have hwN : IntKind.u64.wrap (N : Int) = (N : Int) := u64_same (by omega) (by omega)
  go_wp2_with fail
  refine (rputvar_any N _ (by omega) (by omega)).mono ?_
  rintro e w1 ⟨v1, rfl, ho, hb1⟩
  replace hx := hx.below hb1
  have hbel := after1 hb1
  replace ho := ho.ow.mono (base' := w.heap.size + 1) (by simp)
  have hlp := pv_len10 (x := (N : Int)) (by omega)
  clear hb1
  go_wp2_with fail
  go_loopw [3, 4] (fun o i wr => ∃ (j : Nat) (bs : List Int), j ≤ N ∧ i = .int .i64 (j : Int) ∧ Hid (bs = joinN ((N : Int) :: ts.take j)) ∧ bs.length ≤ 10 * (j + 1) ∧ OW wr (w.heap.size + 1) o bs ∧ Sx wr w.heap.size A N C k m g ∧ Below w.heap.size w wr) (fun _ i _ => N - (intOf i).toNat)
  case atStart => exact ⟨0, _, by omega, rfl, Lib.hid (by simp [joinN]), by simpa using hlp, ho, hx, hbel⟩
  case round =>
    clear ho hx hbel hlp
    obtain ⟨j, bs, hj, rfl, HB, hbl, ho, hx, hbel⟩ := hrel
    obtain ⟨c0, c1, c2, c3⟩ := id hx
    by_cases hlt : j < N
    · obtain ⟨b, off, rfl, hcl⟩ := IV.at hv j hlt
      have hcl' := keepc hcl hbel
      have hr := type_at HK.out (j := j) (by rw [hl.out]; exact hlt)
      have HS := Lib.hid (take_snocI ts j (by rw [hl.out]; exact hlt))
      generalize ts.getD j 0 = x at hcl' hr HS
      clear hcl
      have hlp := pv_len10 (x := x) (by omega)
      have hwx : IntKind.u64.wrap x = x := u64_same (by omega) (by omega)
      have hji : (j : Int) < (N : Int) := by omega
      go_wp2_with fail
      clear c0 c1 c2 c3
      refine (rputvar_any x _ (by omega) (by omega)).mono ?_
      rintro e w2 ⟨v2, rfl, ho2, hb2⟩
      obtain ⟨a2, e2, rfl, -, -, bv2, -⟩ := ho2.ow.bvn (pv_bytes (by omega)) (pv x).length rfl
      replace ho := ho.below hb2
      replace hx := hx.below hb2
      replace hbel := Below.then hbel hb2
      have hs2 : w.heap.size + 1 ≤ w2.heap.size := hx.lt
      clear ho2 hb2
      go_wp2_with (refine append_ow rfl (.tmp 17) (.tmp 24) rfl (w.heap.size + 1) _ _ rfl ho _ _ _ (pv x) rfl bv2 (by first | omega | (simp only [List.length_append]; omega)) hs2 ?_; intro v3 w3 ho3 hb3; replace ho := ho3; replace hx := hx.low hb3 (by omega); replace hbel := hbel.trans (hb3.mono (by omega)); clear ho3 hb3 bv2 hs2; obtain ⟨c0, c1, c2, c3⟩ := id hx)
      go_roundw
      case rel => exact ⟨j + 1, _, by omega, by go_num, Lib.hid (by rw [HS.out, HB.out, ← List.cons_append, joinN_snoc]), by rw [List.length_append]; omega, ho, hx, hbel⟩
      case measure => simp [intOf]; omega
    · obtain rfl : j = N := by omega
      have HB' : Hid (bs = joinN ((j : Int) :: ts)) := Lib.hid (by rw [HB.out, ← hl.out, List.take_length])
      have hwk : IntKind.u64.wrap k = k := u64_same (by omega) (by omega)
      have hwm : IntKind.u64.wrap m = m := u64_same (by omega) (by omega)
      have hwg : IntKind.u64.wrap g = g := u64_same (by omega) (by omega)
      have l1 := pv_len10 (x := k) (by omega)
      have l2 := pv_len10 (x := m) (by omega)
      have l3 := pv_len10 (x := g) (by omega)
      go_wp2_with fail
      clear c0 c1 c2 c3
      refine (rputvar_any k _ (by omega) (by omega)).mono ?_
      rintro e w2 ⟨v2, rfl, ho2, hb2⟩
      obtain ⟨a2, e2, rfl, -, -, bv2, -⟩ := ho2.ow.bvn (pv_bytes (by omega)) (pv k).length rfl
      replace ho := ho.below hb2
      replace hx := hx.below hb2
      replace hbel := Below.then hbel hb2
      have hs2 : w.heap.size + 1 ≤ w2.heap.size := hx.lt
      clear ho2 hb2
      go_wp2_with (refine append_ow rfl (.tmp 26) (.tmp 30) rfl (w.heap.size + 1) _ _ rfl ho _ _ _ (pv k) rfl bv2 (by first | omega | (simp only [List.length_append]; omega)) hs2 ?_; intro v3 w3 ho3 hb3; replace ho := ho3; replace hx := hx.low hb3 (by omega); replace hbel := hbel.trans (hb3.mono (by omega)); clear ho3 hb3 bv2 hs2; obtain ⟨c0, c1, c2, c3⟩ := id hx)
      clear c0 c1 c2 c3
      refine (rputvar_any m _ (by omega) (by omega)).mono ?_
      rintro e w2 ⟨v2, rfl, ho2, hb2⟩
      obtain ⟨a2, e2, rfl, -, -, bv2, -⟩ := ho2.ow.bvn (pv_bytes (by omega)) (pv m).length rfl
      replace ho := ho.below hb2
      replace hx := hx.below hb2
      replace hbel := Below.then hbel hb2
      have hs2 : w.heap.size + 1 ≤ w2.heap.size := hx.lt
      clear ho2 hb2
      go_wp2_with (refine append_ow rfl (.tmp 32) (.tmp 36) rfl (w.heap.size + 1) _ _ rfl ho _ _ _ (pv m) rfl bv2 (by first | omega | (simp only [List.length_append]; omega)) hs2 ?_; intro v3 w3 ho3 hb3; replace ho := ho3; replace hx := hx.low hb3 (by omega); replace hbel := hbel.trans (hb3.mono (by omega)); clear ho3 hb3 bv2 hs2; obtain ⟨c0, c1, c2, c3⟩ := id hx)
      clear c0 c1 c2 c3
      refine (rputvar_any g _ (by omega) (by omega)).mono ?_
      rintro e w2 ⟨v2, rfl, ho2, hb2⟩
      obtain ⟨a2, e2, rfl, -, -, bv2, -⟩ := ho2.ow.bvn (pv_bytes (by omega)) (pv g).length rfl
      replace ho := ho.below hb2
      replace hx := hx.below hb2
      replace hbel := Below.then hbel hb2
      have hs2 : w.heap.size + 1 ≤ w2.heap.size := hx.lt
      clear ho2 hb2
      go_wp2_with (refine append_ow rfl (.tmp 38) (.tmp 42) rfl (w.heap.size + 1) _ _ rfl ho _ _ _ (pv g) rfl bv2 (by first | omega | (simp only [List.length_append]; omega)) hs2 ?_; intro v3 w3 ho3 hb3; replace ho := ho3; replace hx := hx.low hb3 (by omega); replace hbel := hbel.trans (hb3.mono (by omega)); clear ho3 hb3 bv2 hs2; obtain ⟨c0, c1, c2, c3⟩ := id hx)
      go_ret
      refine ⟨_, rfl, ?_, hbel⟩
      have e : bs ++ pv k ++ pv m ++ pv g = putS ts k m g := by
        rw [HB'.out, putS, schemaN, hl.out, ← List.cons_append, joinN_app]
        simp [joinN]
      rw [e] at ho
      exact ho.mono (by omega)
end Go.Proofs.Ytllgnafbemmcaaa
