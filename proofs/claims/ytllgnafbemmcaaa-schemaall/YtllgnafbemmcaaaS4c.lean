/- Contracts of schema.Compare and of the document's own Compare. -/
import Derived.Test.YtllgnafbemmcaaaS4b
namespace Go.Proofs.Ytllgnafbemmcaaa
open Go.ChangeShapes Go.WideShapes Go.ChangeAt Go.RowKit
set_option linter.unusedVariables false

abbrev RgV (vs : List (Int × ByteArray)) : Prop := ∀ v ∈ vs, -9223372036854775808 ≤ v.1 ∧ v.1 ≤ 9223372036854775807
theorem RgV.at {vs : List (Int × ByteArray)} (h : RgV vs) {i : Nat} (hi : i < vs.length) : -9223372036854775808 ≤ (vs.getD i v0).1 ∧ (vs.getD i v0).1 ≤ 9223372036854775807 := by
  have : vs.getD i v0 = vs[i] := by simp [List.getD, hi]
  rw [this]; exact h _ (List.getElem_mem hi)
theorem drop_getD {α : Type} (l : List α) (d : α) (j : Nat) (h : j < l.length) : l.drop j = l.getD j d :: l.drop (j + 1) := by
  rw [List.drop_eq_getElem_cons h]; simp [List.getD, h]
theorem cR_step {ts : List Int} {a b : List (Int × ByteArray)} {j : Nat} (h1 : j < ts.length) (h2 : j < a.length) (h3 : j < b.length) :
    cR (ts.drop j) (a.drop j) (b.drop j) = if cV (ts.getD j 0) (a.getD j v0) (b.getD j v0) = 0 then cR (ts.drop (j + 1)) (a.drop (j + 1)) (b.drop (j + 1)) else cV (ts.getD j 0) (a.getD j v0) (b.getD j v0) := by
  rw [drop_getD ts 0 j h1, drop_getD a v0 j h2, drop_getD b v0 j h3, cR, cmpRow]; rfl
theorem cR_end {ts : List Int} {a b : List (Int × ByteArray)} {j : Nat} (h : ts.length ≤ j ∨ a.length ≤ j ∨ b.length ≤ j) : cR (ts.drop j) (a.drop j) (b.drop j) = 0 := by
  rcases h with h | h | h
  · rw [List.drop_eq_nil_of_le h]; rfl
  · rw [List.drop_eq_nil_of_le h]; cases ts.drop j <;> rfl
  · rw [List.drop_eq_nil_of_le h]; cases ts.drop j <;> cases a.drop j <;> rfl
theorem take_getD (ts : List Int) (K j : Nat) (h : j < K) : (ts.take K).getD j 0 = ts.getD j 0 := by
  simp [List.getD, h]
theorem min4 (a b c d : Nat) : ∃ M : Nat, (M ≤ a ∧ M ≤ b ∧ M ≤ c ∧ M ≤ d ∧ (M = a ∨ M = b ∨ M = c ∨ M = d)) ∧
    ∀ w, (Builtin.min_ #[3, 3, 3, 3] 3 #[.int .i64 (a : Int), .int .i64 (b : Int), .int .i64 (c : Int), .int .i64 (d : Int)]).run Try.prog w = .ok (.int .i64 (M : Int)) w := by
  refine ⟨min (min (min a b) c) d, by omega, fun w => ?_⟩
  have e : (((min (min (min a b) c) d : Nat)) : Int) = if (d : Int) < (if (c : Int) < (if (b : Int) < a then (b : Int) else a) then (c : Int) else (if (b : Int) < a then (b : Int) else a)) then (d : Int) else (if (c : Int) < (if (b : Int) < a then (b : Int) else a) then (c : Int) else (if (b : Int) < a then (b : Int) else a)) := by
    (repeat' split) <;> omega
  rw [e]
  simp [Builtin.min_, Builtin.min2]
set_option maxHeartbeats 1000000 in
theorem scompare_any (A : Option Addr) (N C : Nat) (ts : List Int) (K : Nat) (m g : Int) (Ra : Option Addr) (na ca : Nat) (va : List (Int × ByteArray)) (Rb : Option Addr) (nb cb : Nat) (vb : List (Int × ByteArray)) (w : World)
    (hv : IV w A N ts) (hN : N ≤ maxLen) (ha : WV w Ra na va) (hna : na ≤ maxLen) (hb : WV w Rb nb vb) (hnb : nb ≤ maxLen) (hK : K ≤ maxLen) :
    Calls Try.prog 24 #[SS A N C K m g, .slice Ra na ca, .slice Rb nb cb] w fun e w' => e = .returned (.int .i64 (cR (ts.take K) va vb)) ∧ Below w.heap.size w w' := by
  unfold maxLen at hN hna hnb hK
  have hl := Lib.hid (IV.len hv)
  have hla := Lib.hid (WV.len ha)
  have hlb := Lib.hid (WV.len hb)
  obtain ⟨M, hM, hmin⟩ := min4 K N na nb
  have HM := Lib.hid hM
  have hM63 : M ≤ 2 ^ 63 - 1 := by omega
  clear hM
  go_enter Try.func24, Try.ntmps24
  go_wp2_with fail
  clear hmin
  go_loopw [19] (fun i wr => ∃ j : Nat, j ≤ M ∧ i = .int .i64 (j : Int) ∧ Hid (cR (ts.take K) va vb = cR ((ts.take K).drop j) (va.drop j) (vb.drop j)) ∧ Below (w.alloc (.cells #[.slice A N C, .int .i64 K, .int .i64 m, .int .i64 g] 24)).heap.size (w.alloc (.cells #[.slice A N C, .int .i64 K, .int .i64 m, .int .i64 g] 24)) wr) (fun i _ => M - (intOf i).toNat)
  case atStart => exact ⟨0, by omega, rfl, Lib.hid (by simp), Below.refl _ _⟩
  case round =>
    obtain ⟨j, hj, rfl, HC, hbel⟩ := hrel
    have hbw := after1 hbel
    by_cases hlt : j < M
    · have hx0 := (Sx.new w A N C K m g 24).below hbel
      have hM := HM.out
      have j1 : j < N := by omega
      have j2 : j < na := by omega
      have j3 : j < nb := by omega
      have jK : j < K := by omega
      clear hM
      have HS := Lib.hid (cR_step (ts := ts.take K) (a := va) (b := vb) (j := j) (by rw [List.length_take, hl.out]; omega) (by rw [hla.out]; exact j2) (by rw [hlb.out]; exact j3))
      rw [take_getD _ _ _ jK, ← HC.out] at HS
      obtain ⟨b1, off1, rfl, hc⟩ := IV.at hv j j1
      obtain ⟨b2, off2, rfl, hd⟩ := WV.at ha j j2
      obtain ⟨b3, off3, rfl, he⟩ := WV.at hb j j3
      have hc' := keepc hc hbw
      have hd1 := keepc hd.1 hbw
      have hd2 := keepc hd.2 hbw
      have he1 := keepc he.1 hbw
      have he2 := keepc he.2 hbw
      generalize ts.getD j 0 = x at hc' HS
      generalize va.getD j v0 = y at hd1 hd2 HS
      generalize vb.getD j v0 = z at he1 he2 HS
      obtain ⟨c0, -, -, -⟩ := hx0
      clear hc hd he HC hv ha hb
      go_wp2_with fail
      refine wp_region_noPanic ?_
      refine wp_region_held_drew (S := Ext (World.drew _)) (by kernel_rfl) (Ext.refl _) (fun hS => ?_)
      refine take_at (i := 0) (v := ?_) (some 22) rfl (by kernel_rfl) (by kernel_rfl) (by kernel_rfl) rfl (fun _ _ _ h => h) (Or.inl ⟨by rfl, ?_⟩) hS ?_
      rotate_left
      · (intro wq hq; go_simp); first | done | with_reducible rfl
      try simp only [Act.put, List.setIfInBounds_toArray, List.set_cons_zero, List.set_cons_succ]
      refine take_at (i := 1) (v := ?_) (some 23) rfl (by kernel_rfl) (by kernel_rfl) (by kernel_rfl) rfl (fun _ _ _ h => h) (Or.inl ⟨by rfl, ?_⟩) hS ?_
      rotate_left
      · (intro wq hq; have q := hq _ _ _ c0; go_simp); first | done | with_reducible rfl
      try simp only [Act.put, List.setIfInBounds_toArray, List.set_cons_zero, List.set_cons_succ]
      refine take_at (i := 2) (v := ?_) (some 24) rfl (by kernel_rfl) (by kernel_rfl) (by kernel_rfl) rfl (fun _ _ _ h => h) (Or.inl ⟨by rfl, ?_⟩) hS ?_
      rotate_left
      · (intro wq hq; go_simp); first | done | with_reducible rfl
      try simp only [Act.put, List.setIfInBounds_toArray, List.set_cons_zero, List.set_cons_succ]
      refine take_at (i := 3) (v := ?_) (some 25) rfl (by kernel_rfl) (by kernel_rfl) (by kernel_rfl) rfl (fun _ _ _ h => h) (Or.inl ⟨by rfl, ?_⟩) hS ?_
      rotate_left
      · (intro wq hq; go_simp); first | done | with_reducible rfl
      try simp only [Act.put, List.setIfInBounds_toArray, List.set_cons_zero, List.set_cons_succ]
      refine take_at (i := 4) (v := ?_) (some 26) rfl (by kernel_rfl) (by kernel_rfl) (by kernel_rfl) rfl (fun _ _ _ h => h) (Or.inl ⟨by rfl, ?_⟩) hS ?_
      rotate_left
      · (intro wq hq; have q := hq _ _ _ hc'; go_simp); first | done | with_reducible rfl
      try simp only [Act.put, List.setIfInBounds_toArray, List.set_cons_zero, List.set_cons_succ]
      refine take_at (i := 5) (v := ?_) (some 27) rfl (by kernel_rfl) (by kernel_rfl) (by kernel_rfl) rfl (fun _ _ _ h => h) (Or.inl ⟨by rfl, ?_⟩) hS ?_
      rotate_left
      · (intro wq hq; go_simp); first | done | with_reducible rfl
      try simp only [Act.put, List.setIfInBounds_toArray, List.set_cons_zero, List.set_cons_succ]
      refine take_at (i := 6) (v := ?_) (some 28) rfl (by kernel_rfl) (by kernel_rfl) (by kernel_rfl) rfl (fun _ _ _ h => h) (Or.inl ⟨by rfl, ?_⟩) hS ?_
      rotate_left
      · (intro wq hq; go_simp); first | done | with_reducible rfl
      try simp only [Act.put, List.setIfInBounds_toArray, List.set_cons_zero, List.set_cons_succ]
      refine take_at (i := 7) (v := ?_) (some 29) rfl (by kernel_rfl) (by kernel_rfl) (by kernel_rfl) rfl (fun _ _ _ h => h) (Or.inl ⟨by rfl, ?_⟩) hS ?_
      rotate_left
      · (intro wq hq; go_simp); first | done | with_reducible rfl
      try simp only [Act.put, List.setIfInBounds_toArray, List.set_cons_zero, List.set_cons_succ]
      refine take_at (i := 8) (v := ?_) (some 30) rfl (by kernel_rfl) (by kernel_rfl) (by kernel_rfl) rfl (fun _ _ _ h => h) (Or.inl ⟨by rfl, ?_⟩) hS ?_
      rotate_left
      · (intro wq hq; have q1 := hq _ _ _ hd1; have q2 := hq _ _ _ hd2; go_simp); first | done | with_reducible rfl
      try simp only [Act.put, List.setIfInBounds_toArray, List.set_cons_zero, List.set_cons_succ]
      refine take_at (i := 9) (v := ?_) (some 31) rfl (by kernel_rfl) (by kernel_rfl) (by kernel_rfl) rfl (fun _ _ _ h => h) (Or.inl ⟨by rfl, ?_⟩) hS ?_
      rotate_left
      · (intro wq hq; go_simp); first | done | with_reducible rfl
      try simp only [Act.put, List.setIfInBounds_toArray, List.set_cons_zero, List.set_cons_succ]
      refine take_at (i := 10) (v := ?_) (some 32) rfl (by kernel_rfl) (by kernel_rfl) (by kernel_rfl) rfl (fun _ _ _ h => h) (Or.inl ⟨by rfl, ?_⟩) hS ?_
      rotate_left
      · (intro wq hq; go_simp); first | done | with_reducible rfl
      try simp only [Act.put, List.setIfInBounds_toArray, List.set_cons_zero, List.set_cons_succ]
      refine take_at (i := 11) (v := ?_) (some 33) rfl (by kernel_rfl) (by kernel_rfl) (by kernel_rfl) rfl (fun _ _ _ h => h) (Or.inl ⟨by rfl, ?_⟩) hS ?_
      rotate_left
      · (intro wq hq; go_simp); first | done | with_reducible rfl
      try simp only [Act.put, List.setIfInBounds_toArray, List.set_cons_zero, List.set_cons_succ]
      refine take_at (i := 12) (v := ?_) (some 34) rfl (by kernel_rfl) (by kernel_rfl) (by kernel_rfl) rfl (fun _ _ _ h => h) (Or.inl ⟨by rfl, ?_⟩) hS ?_
      rotate_left
      · (intro wq hq; have q1 := hq _ _ _ he1; have q2 := hq _ _ _ he2; go_simp); first | done | with_reducible rfl
      try simp only [Act.put, List.setIfInBounds_toArray, List.set_cons_zero, List.set_cons_succ]
      refine wpAnyH_ready (rs := [13]) (by kernel_rfl) (by simp) ?_
      refine AllReadyH.cons rfl (fun K hK => ?_) AllReadyH.nil
      go_simp
      refine (compare_any x y.1 z.1 y.2 z.2 _).mono ?_
      rintro e w1 ⟨rfl, hb1⟩
      refine hK.out _ _ (Ext.below hb1) (fun hS0 => ?_)
      clear hK K
      try simp only [Act.put, List.setIfInBounds_toArray, List.set_cons_zero, List.set_cons_succ]
      clear hS
      refine held_now hS0 (fun hS => ?_)
      clear hS0
      refine take_at (i := 14) (v := ?_) (some 8) rfl (by kernel_rfl) (by kernel_rfl) (by kernel_rfl) rfl (fun _ _ _ h => h) (Or.inl ⟨by rfl, ?_⟩) hS ?_
      rotate_left
      · (intro wq hq; go_simp); first | done | with_reducible rfl
      try simp only [Act.put, List.setIfInBounds_toArray, List.set_cons_zero, List.set_cons_succ]
      refine wpAnyH_done (by kernel_rfl) (NoPanic.normal ?_) _
      have hb' := Below.then hbel.drew hb1
      clear hb1 hc' hd1 hd2 he1 he2 hS hbel c0 hbw
      have HS' : Hid (cR (ts.take K) va vb = if cmpV x y.1 y.2 z.1 z.2 = 0 then cR ((ts.take K).drop (j + 1)) (va.drop (j + 1)) (vb.drop (j + 1)) else cmpV x y.1 y.2 z.1 z.2) := HS
      clear HS
      generalize cmpV x y.1 y.2 z.1 z.2 = q at *
      by_cases hq : q = 0
      · subst hq
        rw [if_pos rfl] at HS'
        go_wp2_with fail
        go_roundw
        case rel => exact ⟨j + 1, by omega, by go_num, HS', hb'⟩
        case measure => simp [intOf]; omega
      · rw [if_neg hq] at HS'
        have hq' : (q == 0) = false := by rw [beq_eq_false_iff_ne]; exact hq
        go_wp2_with fail
        go_ret
        exact ⟨ret_int HS'.out.symm, after1 hb'⟩
    · obtain rfl : j = M := by omega
      have h0 := Lib.hid (cR_end (ts := ts.take K) (a := va) (b := vb) (j := j) (by rw [List.length_take, hl.out, hla.out, hlb.out]; have := HM.out; omega))
      go_wp2_with fail
      go_ret
      exact ⟨ret_int (by rw [HC.out, h0.out]), hbw⟩
set_option maxHeartbeats 1000000 in
theorem r4compare_any (A : Option Addr) (N C : Nat) (ts : List Int) (K : Nat) (m g : Int) (Ra : Option Addr) (na ca : Nat) (va : List (Int × ByteArray)) (Rb : Option Addr) (nb cb : Nat) (vb : List (Int × ByteArray)) (w : World)
    (hv : IV w A N ts) (hN : N ≤ maxLen) (ha : WV w Ra na va) (hna : na ≤ maxLen) (hb : WV w Rb nb vb) (hnb : nb ≤ maxLen) (hK : K ≤ maxLen) (qa : RgV va) (qb : RgV vb) :
    Calls Try.prog 25 #[SS A N C K m g, .slice Ra na ca, .slice Rb nb cb] w fun e w' => e = .returned (.int .i64 (cR (ts.take K) va vb)) ∧ Below w.heap.size w w' := by
  unfold maxLen at hN hna hnb hK
  have hl := Lib.hid (IV.len hv)
  have hla := Lib.hid (WV.len ha)
  have hlb := Lib.hid (WV.len hb)
  obtain ⟨M, hM, -⟩ := min4 K N na nb
  have HM := Lib.hid hM
  have hM63 : M ≤ 2 ^ 63 - 1 := by omega
  clear hM
  go_enter Try.func25, Try.ntmps25
  go_wp2_with fail
  go_loopw [7] (fun i wr => ∃ j : Nat, j ≤ M ∧ i = .int .i64 (j : Int) ∧ Hid (cR (ts.take K) va vb = cR ((ts.take K).drop j) (va.drop j) (vb.drop j)) ∧ Below (w.alloc (.cells #[.slice A N C, .int .i64 K, .int .i64 m, .int .i64 g] 24)).heap.size (w.alloc (.cells #[.slice A N C, .int .i64 K, .int .i64 m, .int .i64 g] 24)) wr) (fun i _ => M - (intOf i).toNat)
  case atStart => exact ⟨0, by omega, rfl, Lib.hid (by simp), Below.refl _ _⟩
  case round =>
    obtain ⟨j, hj, rfl, HC, hbel⟩ := hrel
    have hbw := after1 hbel
    by_cases hlt : j < M
    · have hx0 := (Sx.new w A N C K m g 24).below hbel
      have hM := HM.out
      have j1 : j < N := by omega
      have j2 : j < na := by omega
      have j3 : j < nb := by omega
      have jK : j < K := by omega
      clear hM
      have HS := Lib.hid (cR_step (ts := ts.take K) (a := va) (b := vb) (j := j) (by rw [List.length_take, hl.out]; omega) (by rw [hla.out]; exact j2) (by rw [hlb.out]; exact j3))
      rw [take_getD _ _ _ jK, ← HC.out] at HS
      obtain ⟨b1, off1, rfl, hc⟩ := IV.at hv j j1
      obtain ⟨b2, off2, rfl, hd⟩ := WV.at ha j j2
      obtain ⟨b3, off3, rfl, he⟩ := WV.at hb j j3
      have hc' := keepc hc hbw
      have hd1 := keepc hd.1 hbw
      have hd2 := keepc hd.2 hbw
      have he1 := keepc he.1 hbw
      have he2 := keepc he.2 hbw
      generalize ts.getD j 0 = x at hc' HS
      have ry := RgV.at qa (i := j) (by rw [hla.out]; exact j2)
      have rz := RgV.at qb (i := j) (by rw [hlb.out]; exact j3)
      generalize va.getD j v0 = y at hd1 hd2 HS ry
      generalize vb.getD j v0 = z at he1 he2 HS rz
      obtain ⟨c0, c1, -, -⟩ := hx0
      clear hc hd he HC hv ha hb
      go_wp2_with fail
      refine wp_region_noPanic ?_
      refine wp_region_held_drew (S := Ext (World.drew _)) (by kernel_rfl) (Ext.refl _) (fun hS => ?_)
      refine take_at (i := 0) (v := ?_) (some 34) rfl (by kernel_rfl) (by kernel_rfl) (by kernel_rfl) rfl (fun _ _ _ h => h) (Or.inl ⟨by rfl, ?_⟩) hS ?_
      rotate_left
      · (intro wq hq; go_simp); first | done | with_reducible rfl
      try simp only [Act.put, List.setIfInBounds_toArray, List.set_cons_zero, List.set_cons_succ]
      refine take_at (i := 1) (v := ?_) (some 35) rfl (by kernel_rfl) (by kernel_rfl) (by kernel_rfl) rfl (fun _ _ _ h => h) (Or.inl ⟨by rfl, ?_⟩) hS ?_
      rotate_left
      · (intro wq hq; have q := hq _ _ _ c0; go_simp); first | done | with_reducible rfl
      try simp only [Act.put, List.setIfInBounds_toArray, List.set_cons_zero, List.set_cons_succ]
      refine take_at (i := 2) (v := ?_) (some 36) rfl (by kernel_rfl) (by kernel_rfl) (by kernel_rfl) rfl (fun _ _ _ h => h) (Or.inl ⟨by rfl, ?_⟩) hS ?_
      rotate_left
      · (intro wq hq; go_simp); first | done | with_reducible rfl
      try simp only [Act.put, List.setIfInBounds_toArray, List.set_cons_zero, List.set_cons_succ]
      refine take_at (i := 3) (v := ?_) (some 37) rfl (by kernel_rfl) (by kernel_rfl) (by kernel_rfl) rfl (fun _ _ _ h => h) (Or.inl ⟨by rfl, ?_⟩) hS ?_
      rotate_left
      · (intro wq hq; go_simp); first | done | with_reducible rfl
      try simp only [Act.put, List.setIfInBounds_toArray, List.set_cons_zero, List.set_cons_succ]
      refine take_at (i := 4) (v := ?_) (some 38) rfl (by kernel_rfl) (by kernel_rfl) (by kernel_rfl) rfl (fun _ _ _ h => h) (Or.inl ⟨by rfl, ?_⟩) hS ?_
      rotate_left
      · (intro wq hq; have q := hq _ _ _ hc'; go_simp); first | done | with_reducible rfl
      try simp only [Act.put, List.setIfInBounds_toArray, List.set_cons_zero, List.set_cons_succ]
      refine take_at (i := 5) (v := ?_) (some 39) rfl (by kernel_rfl) (by kernel_rfl) (by kernel_rfl) rfl (fun _ _ _ h => h) (Or.inl ⟨by rfl, ?_⟩) hS ?_
      rotate_left
      · (intro wq hq; go_simp); first | done | with_reducible rfl
      try simp only [Act.put, List.setIfInBounds_toArray, List.set_cons_zero, List.set_cons_succ]
      refine take_at (i := 6) (v := ?_) (some 40) rfl (by kernel_rfl) (by kernel_rfl) (by kernel_rfl) rfl (fun _ _ _ h => h) (Or.inl ⟨by rfl, ?_⟩) hS ?_
      rotate_left
      · (intro wq hq; go_simp); first | done | with_reducible rfl
      try simp only [Act.put, List.setIfInBounds_toArray, List.set_cons_zero, List.set_cons_succ]
      refine take_at (i := 7) (v := ?_) (some 41) rfl (by kernel_rfl) (by kernel_rfl) (by kernel_rfl) rfl (fun _ _ _ h => h) (Or.inl ⟨by rfl, ?_⟩) hS ?_
      rotate_left
      · (intro wq hq; go_simp); first | done | with_reducible rfl
      try simp only [Act.put, List.setIfInBounds_toArray, List.set_cons_zero, List.set_cons_succ]
      refine take_at (i := 8) (v := ?_) (some 42) rfl (by kernel_rfl) (by kernel_rfl) (by kernel_rfl) rfl (fun _ _ _ h => h) (Or.inl ⟨by rfl, ?_⟩) hS ?_
      rotate_left
      · (intro wq hq; have q1 := hq _ _ _ hd1; have q2 := hq _ _ _ hd2; go_simp); first | done | with_reducible rfl
      try simp only [Act.put, List.setIfInBounds_toArray, List.set_cons_zero, List.set_cons_succ]
      refine take_at (i := 9) (v := ?_) (some 43) rfl (by kernel_rfl) (by kernel_rfl) (by kernel_rfl) rfl (fun _ _ _ h => h) (Or.inl ⟨by rfl, ?_⟩) hS ?_
      rotate_left
      · (intro wq hq; go_simp); first | done | with_reducible rfl
      try simp only [Act.put, List.setIfInBounds_toArray, List.set_cons_zero, List.set_cons_succ]
      refine take_at (i := 10) (v := ?_) (some 44) rfl (by kernel_rfl) (by kernel_rfl) (by kernel_rfl) rfl (fun _ _ _ h => h) (Or.inl ⟨by rfl, ?_⟩) hS ?_
      rotate_left
      · (intro wq hq; go_simp); first | done | with_reducible rfl
      try simp only [Act.put, List.setIfInBounds_toArray, List.set_cons_zero, List.set_cons_succ]
      refine take_at (i := 11) (v := ?_) (some 45) rfl (by kernel_rfl) (by kernel_rfl) (by kernel_rfl) rfl (fun _ _ _ h => h) (Or.inl ⟨by rfl, ?_⟩) hS ?_
      rotate_left
      · (intro wq hq; go_simp); first | done | with_reducible rfl
      try simp only [Act.put, List.setIfInBounds_toArray, List.set_cons_zero, List.set_cons_succ]
      refine take_at (i := 12) (v := ?_) (some 46) rfl (by kernel_rfl) (by kernel_rfl) (by kernel_rfl) rfl (fun _ _ _ h => h) (Or.inl ⟨by rfl, ?_⟩) hS ?_
      rotate_left
      · (intro wq hq; have q1 := hq _ _ _ he1; have q2 := hq _ _ _ he2; go_simp); first | done | with_reducible rfl
      try simp only [Act.put, List.setIfInBounds_toArray, List.set_cons_zero, List.set_cons_succ]
      refine wpAnyH_ready (rs := [13]) (by kernel_rfl) (by simp) ?_
      refine AllReadyH.cons rfl (fun K hK => ?_) AllReadyH.nil
      go_simp
      refine (rcompare_any x y.1 z.1 y.2 z.2 _ ry rz).mono ?_
      rintro e w1 ⟨rfl, hb1⟩
      refine hK.out _ _ (Ext.below hb1) (fun hS0 => ?_)
      clear hK K
      try simp only [Act.put, List.setIfInBounds_toArray, List.set_cons_zero, List.set_cons_succ]
      clear hS
      refine held_now hS0 (fun hS => ?_)
      clear hS0
      refine take_at (i := 14) (v := ?_) (some 8) rfl (by kernel_rfl) (by kernel_rfl) (by kernel_rfl) rfl (fun _ _ _ h => h) (Or.inl ⟨by rfl, ?_⟩) hS ?_
      rotate_left
      · (intro wq hq; go_simp); first | done | with_reducible rfl
      try simp only [Act.put, List.setIfInBounds_toArray, List.set_cons_zero, List.set_cons_succ]
      refine wpAnyH_done (by kernel_rfl) (NoPanic.normal ?_) _
      have hb' := Below.then hbel.drew hb1
      clear hb1 hc' hd1 hd2 he1 he2 hS hbel c0 c1 hbw
      have HS' : Hid (cR (ts.take K) va vb = if cmpV x y.1 y.2 z.1 z.2 = 0 then cR ((ts.take K).drop (j + 1)) (va.drop (j + 1)) (vb.drop (j + 1)) else cmpV x y.1 y.2 z.1 z.2) := HS
      clear HS
      generalize cmpV x y.1 y.2 z.1 z.2 = q at *
      by_cases hq : q = 0
      · subst hq
        rw [if_pos rfl] at HS'
        go_wp2_with fail
        go_roundw
        case rel => exact ⟨j + 1, by omega, by go_num, HS', hb'⟩
        case measure => simp [intOf]; omega
      · rw [if_neg hq] at HS'
        have hq' : (q == 0) = false := by rw [beq_eq_false_iff_ne]; exact hq
        go_wp2_with fail
        go_ret
        exact ⟨ret_int HS'.out.symm, after1 hb'⟩
    · obtain rfl : j = M := by omega
      have h0 := Lib.hid (cR_end (ts := ts.take K) (a := va) (b := vb) (j := j) (by rw [List.length_take, hl.out, hla.out, hlb.out]; have := HM.out; omega))
      have hx0 := (Sx.new w A N C K m g 24).below hbel
      obtain ⟨c0, c1, -, -⟩ := hx0
      rcases (show ¬ j < K ∨ (j < K ∧ ¬ j < N) ∨ (j < K ∧ j < N ∧ ¬ j < na) ∨ (j < K ∧ j < N ∧ j < na ∧ ¬ j < nb) by have := HM.out; omega) with d1 | ⟨d1, d2⟩ | ⟨d1, d2, d3⟩ | ⟨d1, d2, d3, d4⟩ <;>
        (go_wp2_with fail; go_ret; exact ⟨ret_int (by rw [HC.out, h0.out]), hbw⟩)
end Go.Proofs.Ytllgnafbemmcaaa
