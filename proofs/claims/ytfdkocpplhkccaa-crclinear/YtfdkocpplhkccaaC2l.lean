/- CrcLinear: the walk. -/
import Derived.Test.YtfdkocpplhkccaaC2s
import Derived.Test.YtfdkocpplhkccaaK2
namespace Go.Proofs.Ytfdkocpplhkccaa
open Go.ChangeShapes Go.WideShapes Go.ChangeAt Go.RowKit
set_option linter.unusedVariables false

theorem run_min_int4 (ts : Array TypeId) (t : TypeId) (a b c d : Int) (m : Int) (hm : m = min (min (min a b) c) d) (w : World) : (Builtin.min_ ts t #[.int .i64 a, .int .i64 b, .int .i64 c, .int .i64 d]).run Try.prog w = .ok (.int .i64 m) w := by
  subst hm
  simp [Builtin.min_, Builtin.min2]
  simp only [Int.min_def]
  (repeat' split) <;> omega
theorem u8_xor3 (a b c : Int) (ha : 0 ≤ a ∧ a ≤ 255) (hb : 0 ≤ b ∧ b ≤ 255) (hc : 0 ≤ c ∧ c ≤ 255) : bits .xor .u8 (bits .xor .u8 a b) c = xor3 a b c := by
  have h := xor_lt8 (show a.toNat < 256 by omega) (show b.toNat < 256 by omega)
  rw [u8_xor a b (by omega) (by omega) (by omega) (by omega), u8_xor _ _ (by omega) (by omega) (by omega) (by omega), Int.toNat_natCast]
  rfl
theorem xorB_bytes : ∀ (a b c : List Int), (∀ z ∈ a, 0 ≤ z ∧ z ≤ 255) → (∀ z ∈ b, 0 ≤ z ∧ z ≤ 255) → (∀ z ∈ c, 0 ≤ z ∧ z ≤ 255) → ∀ z ∈ xorB a b c, 0 ≤ z ∧ z ≤ 255
  | a :: l, b :: r, c :: s, ha, hb, hc, z, hz => by
    rw [xorB] at hz
    rcases List.mem_cons.1 hz with rfl | hz
    · exact xor3_bd (ha a (List.mem_cons_self ..)).2 (hb b (List.mem_cons_self ..)).2 (hc c (List.mem_cons_self ..)).2
    · exact xorB_bytes l r s (fun z h => ha z (List.mem_cons_of_mem _ h)) (fun z h => hb z (List.mem_cons_of_mem _ h)) (fun z h => hc z (List.mem_cons_of_mem _ h)) z hz
  | [], _, _, _, _, _, z, hz => by simp [xorB] at hz
  | _ :: _, [], _, _, _, _, z, hz => by simp [xorB] at hz
  | _ :: _, _ :: _, [], _, _, _, z, hz => by simp [xorB] at hz
theorem keep {w w' : World} (h : Below w.heap.size w w') {b o : Nat} {v : Value} (hc : w.cell? ⟨b, o, none⟩ = some v) : w'.cell? ⟨b, o, none⟩ = some v := by
  rw [h.cell (p := ⟨b, o, none⟩) (cell_lt hc)]; exact hc
theorem at_of {w : World} {n : Nat} {zs : List Int} {a : Option Addr} (h : BV w a n zs) (k : Nat) (hk : k < n) : ∃ b off x, a = some ⟨b, off, none⟩ ∧ w.cell? ⟨b, off + k, none⟩ = some (.int .u8 x) ∧ 0 ≤ x ∧ x ≤ 255 ∧ Hid (x = zs.getD k 0) := by
  obtain ⟨h1, h2, h3⟩ := h
  rcases h3 with h3 | ⟨b, off, rfl, hc⟩
  · omega
  · have := h2 (zs.getD k 0) (by simp [show k < zs.length from by omega])
    exact ⟨b, off, _, rfl, hc k hk, this.1, this.2, rfl⟩

set_option maxHeartbeats 2000000 in
theorem crcLinear_walk (a b c : Option Addr) (na ca nb cb nc cc : Nat) (A B C : List Int) (w : World) (hA : BV w a na A) (hB : BV w b nb B) (hC : BV w c nc C) (hca : na ≤ ca) (hcb : nb ≤ cb) (hcc : nc ≤ cc) :
    Calls Try.prog 6 #[.slice a na ca, .slice b nb cb, .slice c nc cc] w fun e w' => e = .returned (.bool true) ∧ Below w.heap.size w w' := by
  obtain ⟨M, hM⟩ : ∃ M : Nat, M = min (min (min na nb) nc) 300 := ⟨_, rfl⟩
  have hMa : M ≤ na := by omega
  have hMb : M ≤ nb := by omega
  have hMc : M ≤ nc := by omega
  have hM3 : M ≤ 300 := by omega
  have hmin := fun wx => run_min_int4 #[3, 3, 3, 3] 3 na nb nc 300 M (by omega) wx
  clear hM
  go_enter Try.func6, Try.ntmps6
  go_wp2_with (go_at_call 9; refine (shown2_is _).mono ?_; rintro e w0 ⟨rfl, hb0⟩)
  have hs0 := hb0.size
  go_loopw [9, 10] (fun v i wr => ∃ (k : Nat) (bs : List Int), k ≤ M ∧ i = .int .i64 (k : Int) ∧ Hid (bs = xorB (A.take k) (B.take k) (C.take k)) ∧ bs.length = k ∧ OW wr w.heap.size v bs ∧ Below w.heap.size w wr) (fun _ i _ => M - (intOf i).toNat)
  case atStart => exact ⟨0, [], by omega, rfl, rfl, rfl, OW.empty w0 _ hs0 _ rfl, hb0.alloc hs0 _⟩
  case round =>
    obtain ⟨k, bs, hk, rfl, HB, hbl, hown, hbel⟩ := hrel
    by_cases hlt : k < M
    · obtain ⟨ba, oa, x, rfl, hxa, hxa0, hxa1, HXA⟩ := at_of hA k (by omega)
      obtain ⟨bb, ob, y, rfl, hxb, hxb0, hxb1, HXB⟩ := at_of hB k (by omega)
      obtain ⟨bc, oc, z, rfl, hxc, hxc0, hxc1, HXC⟩ := at_of hC k (by omega)
      have hX := u8_xor3 x y z ⟨hxa0, hxa1⟩ ⟨hxb0, hxb1⟩ ⟨hxc0, hxc1⟩
      have hXb := xor3_bd hxa1 hxb1 hxc1
      have HS : Hid (bs ++ [xor3 x y z] = xorB (A.take (k + 1)) (B.take (k + 1)) (C.take (k + 1))) := by
        show _ = _
        rw [xorB_snoc A B C k (by rw [hA.1]; omega) (by rw [hB.1]; omega) (by rw [hC.1]; omega), HB.out, HXA.out, HXB.out, HXC.out]
      have hka : (k : Int) < (na : Int) := by omega
      have hkb : (k : Int) < (nb : Int) := by omega
      have hkc : (k : Int) < (nc : Int) := by omega
      generalize xor3 x y z = X at *
      clear hA hB hC HB HXA HXB HXC
      go_wp2_with fail
      refine wp_region_noPanic ?_
      refine wp_region_held_drew (S := Below w.heap.size w) (by kernel_rfl) (hbel.drew) (fun hS => ?_)
      refine take_at (i := 0) (v := ?_) (some 25) rfl (by kernel_rfl) (by kernel_rfl) (by kernel_rfl) rfl (fun _ _ _ h => h) (Or.inl ⟨by rfl, ?_⟩) hS ?_
      rotate_left
      · (intro wq hq; go_simp); first | done | with_reducible rfl
      try simp only [Act.put, List.setIfInBounds_toArray, List.set_cons_zero, List.set_cons_succ]
      refine take_at (i := 1) (v := ?_) (some 26) rfl (by kernel_rfl) (by kernel_rfl) (by kernel_rfl) rfl (fun _ _ _ h => h) (Or.inl ⟨by rfl, ?_⟩) hS ?_
      rotate_left
      · (intro wq hq; go_simp); first | done | with_reducible rfl
      try simp only [Act.put, List.setIfInBounds_toArray, List.set_cons_zero, List.set_cons_succ]
      refine take_at (i := 2) (v := ?_) (some 27) rfl (by kernel_rfl) (by kernel_rfl) (by kernel_rfl) rfl (fun _ _ _ h => h) (Or.inl ⟨by rfl, ?_⟩) hS ?_
      rotate_left
      · (intro wq hq; go_simp); first | done | with_reducible rfl
      try simp only [Act.put, List.setIfInBounds_toArray, List.set_cons_zero, List.set_cons_succ]
      refine take_at (i := 3) (v := ?_) (some 28) rfl (by kernel_rfl) (by kernel_rfl) (by kernel_rfl) rfl (fun _ _ _ h => h) (Or.inl ⟨by rfl, ?_⟩) hS ?_
      rotate_left
      · (intro wq hq; go_simp); first | done | with_reducible rfl
      try simp only [Act.put, List.setIfInBounds_toArray, List.set_cons_zero, List.set_cons_succ]
      refine take_at (i := 4) (v := ?_) (some 29) rfl (by kernel_rfl) (by kernel_rfl) (by kernel_rfl) rfl (fun _ _ _ h => h) (Or.inl ⟨by rfl, ?_⟩) hS ?_
      rotate_left
      · (intro wq hq; have hk := keep hq hxa; go_simp); first | done | with_reducible rfl
      try simp only [Act.put, List.setIfInBounds_toArray, List.set_cons_zero, List.set_cons_succ]
      refine take_at (i := 5) (v := ?_) (some 30) rfl (by kernel_rfl) (by kernel_rfl) (by kernel_rfl) rfl (fun _ _ _ h => h) (Or.inl ⟨by rfl, ?_⟩) hS ?_
      rotate_left
      · (intro wq hq; go_simp); first | done | with_reducible rfl
      try simp only [Act.put, List.setIfInBounds_toArray, List.set_cons_zero, List.set_cons_succ]
      refine take_at (i := 6) (v := ?_) (some 31) rfl (by kernel_rfl) (by kernel_rfl) (by kernel_rfl) rfl (fun _ _ _ h => h) (Or.inl ⟨by rfl, ?_⟩) hS ?_
      rotate_left
      · (intro wq hq; go_simp); first | done | with_reducible rfl
      try simp only [Act.put, List.setIfInBounds_toArray, List.set_cons_zero, List.set_cons_succ]
      refine take_at (i := 7) (v := ?_) (some 32) rfl (by kernel_rfl) (by kernel_rfl) (by kernel_rfl) rfl (fun _ _ _ h => h) (Or.inl ⟨by rfl, ?_⟩) hS ?_
      rotate_left
      · (intro wq hq; go_simp); first | done | with_reducible rfl
      try simp only [Act.put, List.setIfInBounds_toArray, List.set_cons_zero, List.set_cons_succ]
      refine take_at (i := 8) (v := ?_) (some 33) rfl (by kernel_rfl) (by kernel_rfl) (by kernel_rfl) rfl (fun _ _ _ h => h) (Or.inl ⟨by rfl, ?_⟩) hS ?_
      rotate_left
      · (intro wq hq; have hk := keep hq hxb; go_simp); first | done | with_reducible rfl
      try simp only [Act.put, List.setIfInBounds_toArray, List.set_cons_zero, List.set_cons_succ]
      refine take_at (i := 9) (v := ?_) (some 34) rfl (by kernel_rfl) (by kernel_rfl) (by kernel_rfl) rfl (fun _ _ _ h => h) (Or.inl ⟨by rfl, ?_⟩) hS ?_
      rotate_left
      · (intro wq hq; go_simp); first | done | with_reducible rfl
      try simp only [Act.put, List.setIfInBounds_toArray, List.set_cons_zero, List.set_cons_succ]
      refine take_at (i := 10) (v := ?_) (some 35) rfl (by kernel_rfl) (by kernel_rfl) (by kernel_rfl) rfl (fun _ _ _ h => h) (Or.inl ⟨by rfl, ?_⟩) hS ?_
      rotate_left
      · (intro wq hq; go_simp); first | done | with_reducible rfl
      try simp only [Act.put, List.setIfInBounds_toArray, List.set_cons_zero, List.set_cons_succ]
      refine take_at (i := 11) (v := ?_) (some 36) rfl (by kernel_rfl) (by kernel_rfl) (by kernel_rfl) rfl (fun _ _ _ h => h) (Or.inl ⟨by rfl, ?_⟩) hS ?_
      rotate_left
      · (intro wq hq; go_simp); first | done | with_reducible rfl
      try simp only [Act.put, List.setIfInBounds_toArray, List.set_cons_zero, List.set_cons_succ]
      refine take_at (i := 12) (v := ?_) (some 37) rfl (by kernel_rfl) (by kernel_rfl) (by kernel_rfl) rfl (fun _ _ _ h => h) (Or.inl ⟨by rfl, ?_⟩) hS ?_
      rotate_left
      · (intro wq hq; go_simp); first | done | with_reducible rfl
      try simp only [Act.put, List.setIfInBounds_toArray, List.set_cons_zero, List.set_cons_succ]
      refine take_at (i := 13) (v := ?_) (some 38) rfl (by kernel_rfl) (by kernel_rfl) (by kernel_rfl) rfl (fun _ _ _ h => h) (Or.inl ⟨by rfl, ?_⟩) hS ?_
      rotate_left
      · (intro wq hq; have hk := keep hq hxc; go_simp); first | done | with_reducible rfl
      try simp only [Act.put, List.setIfInBounds_toArray, List.set_cons_zero, List.set_cons_succ]
      refine take_at (i := 14) (v := ?_) (some 39) rfl (by kernel_rfl) (by kernel_rfl) (by kernel_rfl) rfl (fun _ _ _ h => h) (Or.inl ⟨by rfl, ?_⟩) hS ?_
      rotate_left
      · (intro wq hq; go_simp); first | done | with_reducible rfl
      try simp only [Act.put, List.setIfInBounds_toArray, List.set_cons_zero, List.set_cons_succ]
      refine wpAnyH_ready (rs := [15]) (by kernel_rfl) (by simp) ?_
      refine AllReadyH.cons rfl (fun K hK => ?_) AllReadyH.nil
      go_simp
      have hsz := hbel.size
      have hal : Below w.heap.size w (wr.drew.alloc (.cells #[.int .u8 X] 5)) := hbel.drew.alloc hsz _
      refine hK.out _ _ (hal) (fun hS0 => ?_)
      clear hK K
      try simp only [Act.put, List.setIfInBounds_toArray, List.set_cons_zero, List.set_cons_succ]
      clear hS
      have hS := hS0
      clear hS0
      refine wpAnyH_ready (rs := [16]) (by kernel_rfl) (by simp) ?_
      refine AllReadyH.cons rfl (fun K hK => ?_) AllReadyH.nil
      refine want (by kernel_rfl) ?_
      refine wp_append_ow (some 41) rfl (.tmp 25) (.tmp 40) rfl w.heap.size _ bs rfl (hown.drew.alloc _) _ 1 _ [X] rfl (BV.one1 _ X hXb.1 hXb.2) (by omega) hal.size ?_
      intro v1 w1 ho1 hb1
      have hw1 : Below w.heap.size w w1 := hal.trans hb1
      refine hK.out _ _ (hw1) (fun hS0 => ?_)
      clear hK K
      try simp only [Act.put, List.setIfInBounds_toArray, List.set_cons_zero, List.set_cons_succ]
      clear hS
      have hS := hS0
      clear hS0
      refine take_at (i := 17) (v := ?_) (some 9) rfl (by kernel_rfl) (by kernel_rfl) (by kernel_rfl) rfl (fun _ _ _ h => h) (Or.inl ⟨by rfl, ?_⟩) hS ?_
      rotate_left
      · (intro wq hq; go_simp); first | done | with_reducible rfl
      try simp only [Act.put, List.setIfInBounds_toArray, List.set_cons_zero, List.set_cons_succ]
      refine wpAnyH_done (by kernel_rfl) (NoPanic.normal ?_) _
      clear hS hal hb1
      go_wp2_with fail
      go_roundw
      case rel => exact ⟨k + 1, _, by omega, by go_num, HS, by simp; omega, ho1, hw1⟩
      case measure => simp [intOf]; omega
    · obtain rfl : k = M := by omega
      have hAk := (hA.below hbel).take k hMa
      have hBk := (hB.below hbel).take k hMb
      have hCk := (hC.below hbel).take k hMc
      have hlin := crc_linear (A.take k) (B.take k) (C.take k) (by simp [hA.1, hB.1]; omega) (by simp [hA.1, hC.1]; omega)
      rw [← HB.out] at hlin
      have hbb : ∀ z ∈ bs, 0 ≤ z ∧ z ≤ 255 := by
        rw [HB.out]
        exact xorB_bytes _ _ _ hAk.2.1 hBk.2.1 hCk.2.1
      obtain ⟨a1, c1, rfl, -, -, hbv, -⟩ := hown.bvn hbb k hbl
      have l1 := crcN_lt hbb
      have l2 := crcN_lt hAk.2.1
      have l3 := crcN_lt hBk.2.1
      have l4 := crcN_lt hCk.2.1
      have hq1 := u32_xor_nat _ _ l2 l3
      have hq2 := u32_xor_nat _ _ (xor_lt32 l2 l3) l4
      rw [← hlin] at hq2
      have hsa := fun wx => slice_hi a na ca k (by omega) (by omega) wx
      have hsb := fun wx => slice_hi b nb cb k (by omega) (by omega) wx
      have hsc := fun wx => slice_hi c nc cc k (by omega) (by omega) wx
      rw [Int.toNat_natCast] at hsa hsb hsc
      have hk47 : k ≤ 140737488355328 := by omega
      clear hlin hbb HB hown hA hB hC l1 l2 l3 l4
      go_wp2_with fail
      generalize A.take k = TA at *
      generalize B.take k = TB at *
      generalize C.take k = TC at *
      refine wp_region_noPanic ?_
      refine wp_region_held_drew (S := Below w.heap.size w) (by kernel_rfl) (hbel.drew) (fun hS => ?_)
      refine take_at (i := 0) (v := ?_) (some 42) rfl (by kernel_rfl) (by kernel_rfl) (by kernel_rfl) rfl (fun _ _ _ h => h) (Or.inl ⟨by rfl, ?_⟩) hS ?_
      rotate_left
      · (intro wq hq; go_simp); first | done | with_reducible rfl
      try simp only [Act.put, List.setIfInBounds_toArray, List.set_cons_zero, List.set_cons_succ]
      refine take_at (i := 1) (v := ?_) (some 43) rfl (by kernel_rfl) (by kernel_rfl) (by kernel_rfl) rfl (fun _ _ _ h => h) (Or.inl ⟨by rfl, ?_⟩) hS ?_
      rotate_left
      · (intro wq hq; go_simp); first | done | with_reducible rfl
      try simp only [Act.put, List.setIfInBounds_toArray, List.set_cons_zero, List.set_cons_succ]
      refine take_at (i := 2) (v := ?_) (some 44) rfl (by kernel_rfl) (by kernel_rfl) (by kernel_rfl) rfl (fun _ _ _ h => h) (Or.inl ⟨by rfl, ?_⟩) hS ?_
      rotate_left
      · (intro wq hq; go_simp); first | done | with_reducible rfl
      try simp only [Act.put, List.setIfInBounds_toArray, List.set_cons_zero, List.set_cons_succ]
      refine take_at (i := 4) (v := ?_) (some 46) rfl (by kernel_rfl) (by kernel_rfl) (by kernel_rfl) rfl (fun _ _ _ h => h) (Or.inl ⟨by rfl, ?_⟩) hS ?_
      rotate_left
      · (intro wq hq; go_simp); first | done | with_reducible rfl
      try simp only [Act.put, List.setIfInBounds_toArray, List.set_cons_zero, List.set_cons_succ]
      refine take_at (i := 5) (v := ?_) (some 47) rfl (by kernel_rfl) (by kernel_rfl) (by kernel_rfl) rfl (fun _ _ _ h => h) (Or.inl ⟨by rfl, ?_⟩) hS ?_
      rotate_left
      · (intro wq hq; go_simp); first | done | with_reducible rfl
      try simp only [Act.put, List.setIfInBounds_toArray, List.set_cons_zero, List.set_cons_succ]
      refine take_at (i := 6) (v := ?_) (some 48) rfl (by kernel_rfl) (by kernel_rfl) (by kernel_rfl) rfl (fun _ _ _ h => h) (Or.inl ⟨by rfl, ?_⟩) hS ?_
      rotate_left
      · (intro wq hq; go_simp); first | done | with_reducible rfl
      try simp only [Act.put, List.setIfInBounds_toArray, List.set_cons_zero, List.set_cons_succ]
      refine take_at (i := 8) (v := ?_) (some 50) rfl (by kernel_rfl) (by kernel_rfl) (by kernel_rfl) rfl (fun _ _ _ h => h) (Or.inl ⟨by rfl, ?_⟩) hS ?_
      rotate_left
      · (intro wq hq; go_simp); first | done | with_reducible rfl
      try simp only [Act.put, List.setIfInBounds_toArray, List.set_cons_zero, List.set_cons_succ]
      refine take_at (i := 9) (v := ?_) (some 51) rfl (by kernel_rfl) (by kernel_rfl) (by kernel_rfl) rfl (fun _ _ _ h => h) (Or.inl ⟨by rfl, ?_⟩) hS ?_
      rotate_left
      · (intro wq hq; go_simp); first | done | with_reducible rfl
      try simp only [Act.put, List.setIfInBounds_toArray, List.set_cons_zero, List.set_cons_succ]
      refine take_at (i := 10) (v := ?_) (some 52) rfl (by kernel_rfl) (by kernel_rfl) (by kernel_rfl) rfl (fun _ _ _ h => h) (Or.inl ⟨by rfl, ?_⟩) hS ?_
      rotate_left
      · (intro wq hq; go_simp); first | done | with_reducible rfl
      try simp only [Act.put, List.setIfInBounds_toArray, List.set_cons_zero, List.set_cons_succ]
      refine take_at (i := 13) (v := ?_) (some 55) rfl (by kernel_rfl) (by kernel_rfl) (by kernel_rfl) rfl (fun _ _ _ h => h) (Or.inl ⟨by rfl, ?_⟩) hS ?_
      rotate_left
      · (intro wq hq; go_simp); first | done | with_reducible rfl
      try simp only [Act.put, List.setIfInBounds_toArray, List.set_cons_zero, List.set_cons_succ]
      refine take_at (i := 14) (v := ?_) (some 56) rfl (by kernel_rfl) (by kernel_rfl) (by kernel_rfl) rfl (fun _ _ _ h => h) (Or.inl ⟨by rfl, ?_⟩) hS ?_
      rotate_left
      · (intro wq hq; go_simp); first | done | with_reducible rfl
      try simp only [Act.put, List.setIfInBounds_toArray, List.set_cons_zero, List.set_cons_succ]
      refine take_at (i := 15) (v := ?_) (some 57) rfl (by kernel_rfl) (by kernel_rfl) (by kernel_rfl) rfl (fun _ _ _ h => h) (Or.inl ⟨by rfl, ?_⟩) hS ?_
      rotate_left
      · (intro wq hq; go_simp); first | done | with_reducible rfl
      try simp only [Act.put, List.setIfInBounds_toArray, List.set_cons_zero, List.set_cons_succ]
      refine wpAnyH_ready (rs := [3]) (by kernel_rfl) (by simp) ?_
      refine AllReadyH.cons rfl (fun K hK => ?_) AllReadyH.nil
      go_simp
      refine (sum_any _ _ _ _ _ hbv.drew hk47).mono ?_
      rintro e w' ⟨rfl, rfl⟩
      refine hK.out _ _ (hbel.drew) (fun hS0 => ?_)
      clear hK K
      try simp only [Act.put, List.setIfInBounds_toArray, List.set_cons_zero, List.set_cons_succ]
      clear hS
      have hS := hS0
      clear hS0
      refine wpAnyH_ready (rs := [7]) (by kernel_rfl) (by simp) ?_
      refine AllReadyH.cons rfl (fun K hK => ?_) AllReadyH.nil
      go_simp
      refine (sum_any _ _ _ _ _ hAk.drew hk47).mono ?_
      rintro e w' ⟨rfl, rfl⟩
      refine hK.out _ _ (hbel.drew) (fun hS0 => ?_)
      clear hK K
      try simp only [Act.put, List.setIfInBounds_toArray, List.set_cons_zero, List.set_cons_succ]
      clear hS
      have hS := hS0
      clear hS0
      refine wpAnyH_ready (rs := [11]) (by kernel_rfl) (by simp) ?_
      refine AllReadyH.cons rfl (fun K hK => ?_) AllReadyH.nil
      go_simp
      refine (sum_any _ _ _ _ _ hBk.drew hk47).mono ?_
      rintro e w' ⟨rfl, rfl⟩
      refine hK.out _ _ (hbel.drew) (fun hS0 => ?_)
      clear hK K
      try simp only [Act.put, List.setIfInBounds_toArray, List.set_cons_zero, List.set_cons_succ]
      clear hS
      have hS := hS0
      clear hS0
      refine take_at (i := 12) (v := ?_) (some 54) rfl (by kernel_rfl) (by kernel_rfl) (by kernel_rfl) rfl (fun _ _ _ h => h) (Or.inl ⟨by rfl, ?_⟩) hS ?_
      rotate_left
      · (intro wq hq; go_simp); first | done | with_reducible rfl
      try simp only [Act.put, List.setIfInBounds_toArray, List.set_cons_zero, List.set_cons_succ]
      refine wpAnyH_ready (rs := [16]) (by kernel_rfl) (by simp) ?_
      refine AllReadyH.cons rfl (fun K hK => ?_) AllReadyH.nil
      go_simp
      refine (sum_any _ _ _ _ _ hCk.drew hk47).mono ?_
      rintro e w' ⟨rfl, rfl⟩
      refine hK.out _ _ (hbel.drew) (fun hS0 => ?_)
      clear hK K
      try simp only [Act.put, List.setIfInBounds_toArray, List.set_cons_zero, List.set_cons_succ]
      clear hS
      have hS := hS0
      clear hS0
      refine take_at (i := 17) (v := ?_) (some 59) rfl (by kernel_rfl) (by kernel_rfl) (by kernel_rfl) rfl (fun _ _ _ h => h) (Or.inl ⟨by rfl, ?_⟩) hS ?_
      rotate_left
      · (intro wq hq; go_simp); first | done | with_reducible rfl
      try simp only [Act.put, List.setIfInBounds_toArray, List.set_cons_zero, List.set_cons_succ]
      refine take_at (i := 18) (v := ?_) (some 60) rfl (by kernel_rfl) (by kernel_rfl) (by kernel_rfl) rfl (fun _ _ _ h => h) (Or.inl ⟨by rfl, ?_⟩) hS ?_
      rotate_left
      · (intro wq hq; go_simp); first | done | with_reducible rfl
      try simp only [Act.put, List.setIfInBounds_toArray, List.set_cons_zero, List.set_cons_succ]
      refine take_at (i := 19) (v := ?_) (some 61) rfl (by kernel_rfl) (by kernel_rfl) (by kernel_rfl) rfl (fun _ _ _ h => h) (Or.inl ⟨by rfl, ?_⟩) hS ?_
      rotate_left
      · (intro wq hq; go_simp); first | done | with_reducible rfl
      try simp only [Act.put, List.setIfInBounds_toArray, List.set_cons_zero, List.set_cons_succ]
      refine take_at (i := 20) (v := ?_) (some 6) rfl (by kernel_rfl) (by kernel_rfl) (by kernel_rfl) rfl (fun _ _ _ h => h) (Or.inl ⟨by rfl, ?_⟩) hS ?_
      rotate_left
      · (intro wq hq; go_simp); first | done | with_reducible rfl
      try simp only [Act.put, List.setIfInBounds_toArray, List.set_cons_zero, List.set_cons_succ]
      refine wpAnyH_done (by kernel_rfl) (NoPanic.normal ?_) _
      clear hS
      go_wp2_with fail
      go_ret
      exact ⟨rfl, hbel.drew⟩
end Go.Proofs.Ytfdkocpplhkccaa
