/- Contracts of schema.Put and of the closure within it. -/
import Derived.Test.YtllgnafbemmcaaaS4a
namespace Go.Proofs.Ytllgnafbemmcaaa
open Go.ChangeShapes Go.WideShapes Go.ChangeAt Go.RowKit
set_option linter.unusedVariables false

/-- a variable that is captured -/
def Cap (w : World) (B : Nat) (v : Value) : Prop := w.heap[B]? = some (.cells #[v] 26 (0, 0))
theorem Cap.lt {w : World} {B : Nat} {v : Value} (h : Cap w B v) : B < w.heap.size := lt_of_block h
theorem Cap.alloc {w : World} {B : Nat} {v : Value} (h : Cap w B v) (o : Obj) : Cap (w.alloc o) B v := heap_alloc_lt o h
theorem Cap.drew {w : World} {B : Nat} {v : Value} (h : Cap w B v) : Cap w.drew B v := h
theorem Cap.below {w w' : World} {B base : Nat} {v : Value} (h : Cap w B v) (hb : Below base w w') (hB : B < base) : Cap w' B v := by
  unfold Cap; rw [hb.block B hB]; exact h
theorem OW.set {w : World} {B : Nat} {v : Value} {bs : List Int} (h : OW w (B + 1) v bs) (u : Value) : OW (w.setCell ⟨B, 0, none⟩ u) (B + 1) v bs := by
  rcases h with h | ⟨g, cap, cur, T, h1, h2, h3, h4⟩
  · exact .inl h
  · exact .inr ⟨g, cap, cur, T, h1, h2, (Below.heap_setCell _ _ _ _ (by show g ≠ B; omega)).trans h3, h4⟩
theorem OW.shape {w : World} {base : Nat} {v : Value} {bs : List Int} (h : OW w base v bs) : ∃ a n c, v = .slice a n c := by
  rcases h with ⟨rfl, _⟩ | ⟨g, cap, cur, T, rfl, _⟩
  · exact ⟨_, _, _, rfl⟩
  · exact ⟨_, _, _, rfl⟩
set_option maxHeartbeats 1000000 in
theorem put1_any (x u : Int) (B : Nat) (v : Value) (bs : List Int) (w : World) (hu : IntKind.u64.wrap x = u) (hc : Cap w B v) (ho : OW w (B + 1) v bs) (hl : bs.length ≤ 1000) :
    Calls Try.prog 35 #[.int .i64 x, .pointer (some ⟨B, 0, none⟩)] w fun e w' => e = .returned (.tuple #[]) ∧ ∃ v', Cap w' B v' ∧ OW w' (B + 1) v' (bs ++ pv u) ∧ Below B w w' := by
  have hu0 : 0 ≤ u ∧ u ≤ 18446744073709551615 := by rw [← hu, IntKind.wrap_u64]; omega
  have hpl := pv_len10 (x := u) (by omega)
  have hlt := hc.lt
  go_enter Try.func35, Try.ntmps35
  go_wp2_with fail
  refine wp_region_noPanic ?_
  refine wp_region_held_drew (S := fun _ => True) (by kernel_rfl) (trivial) (fun hS => ?_)
  refine take_at (i := 1) (v := ?_) (some 4) rfl (by kernel_rfl) (by kernel_rfl) (by kernel_rfl) rfl (fun _ _ _ h => h) (Or.inl ⟨by rfl, ?_⟩) hS ?_
  rotate_left
  · (intro wq hq; go_simp); first | done | with_reducible rfl
  try simp only [Act.put, List.setIfInBounds_toArray, List.set_cons_zero, List.set_cons_succ]
  refine take_at (i := 2) (v := ?_) (some 5) rfl (by kernel_rfl) (by kernel_rfl) (by kernel_rfl) rfl (fun _ _ _ h => h) (Or.inl ⟨by rfl, ?_⟩) hS ?_
  rotate_left
  · (intro wq hq; go_simp); first | done | with_reducible rfl
  try simp only [Act.put, List.setIfInBounds_toArray, List.set_cons_zero, List.set_cons_succ]
  have c0 := cell_of_one hc
  refine wpAnyH_ready (rs := [0, 3]) (by kernel_rfl) (by simp) ?_
  refine (AllReadyH.cons rfl (fun K hK => ?_) (AllReadyH.cons rfl (fun K hK => ?_) AllReadyH.nil))
  · skip
    go_simp
    refine hK.out _ _ (trivial) (fun hS0 => ?_)
    clear hK K
    try simp only [Act.put, List.setIfInBounds_toArray, List.set_cons_zero, List.set_cons_succ]
    clear hS
    have hS := hS0
    clear hS0
    refine wpAnyH_ready (rs := [3]) (by kernel_rfl) (by simp) ?_
    refine AllReadyH.cons rfl (fun K hK => ?_) AllReadyH.nil
    go_simp
    refine (putvar_any u _ hu0.1 hu0.2).mono ?_
    rintro e w1 ⟨rfl, rfl⟩
    refine hK.out _ _ (trivial) (fun hS0 => ?_)
    clear hK K
    try simp only [Act.put, List.setIfInBounds_toArray, List.set_cons_zero, List.set_cons_succ]
    clear hS
    have hS := hS0
    clear hS0
    refine wpAnyH_ready (rs := [4]) (by kernel_rfl) (by simp) ?_
    refine AllReadyH.cons rfl (fun K hK => ?_) AllReadyH.nil
    refine want (by kernel_rfl) ?_
    refine wp_append_ow (some 7) rfl (.tmp 3) (.tmp 6) rfl (B + 1) v bs rfl (ho.drew.alloc _) _ _ 10 (pv u) rfl (BV.pv _ hu0.1) (by omega) (by show B + 1 ≤ (w.alloc (pvObj u)).heap.size; rw [heap_alloc]; omega) ?_
    intro v2 w2 ho2 hb2
    obtain ⟨a3, n3, c3, rfl⟩ := ho2.shape
    refine hK.out _ _ (trivial) (fun hS0 => ?_)
    clear hK K
    try simp only [Act.put, List.setIfInBounds_toArray, List.set_cons_zero, List.set_cons_succ]
    clear hS
    have hS := hS0
    clear hS0
    have hc2 : Cap w2 B v := (hc.drew.alloc (pvObj u)).below hb2 (by omega)
    have c2 := cell_of_one hc2
    have f2 := free_of_one hc2
    refine wpAnyH_ready (rs := [5]) (by kernel_rfl) (by simp) ?_
    refine AllReadyH.cons rfl (fun K hK => ?_) AllReadyH.nil
    go_simp
    refine hK.out _ _ (trivial) (fun hS0 => ?_)
    clear hK K
    try simp only [Act.put, List.setIfInBounds_toArray, List.set_cons_zero, List.set_cons_succ]
    clear hS
    have hS := hS0
    clear hS0
    refine wpAnyH_done (by kernel_rfl) (NoPanic.normal ?_) _
    go_end0
    exact ⟨rfl, _, one_setCell hc2, ho2.set _, ((((Below.refl B w).drew.alloc (by show B ≤ w.heap.size; omega) _).trans (hb2.mono (by omega))).setCell (by show B ≤ B; omega) _)⟩
  · skip
    go_simp
    refine (putvar_any u _ hu0.1 hu0.2).mono ?_
    rintro e w1 ⟨rfl, rfl⟩
    refine hK.out _ _ (trivial) (fun hS0 => ?_)
    clear hK K
    try simp only [Act.put, List.setIfInBounds_toArray, List.set_cons_zero, List.set_cons_succ]
    clear hS
    have hS := hS0
    clear hS0
    refine wpAnyH_ready (rs := [0]) (by kernel_rfl) (by simp) ?_
    refine AllReadyH.cons rfl (fun K hK => ?_) AllReadyH.nil
    go_simp
    refine hK.out _ _ (trivial) (fun hS0 => ?_)
    clear hK K
    try simp only [Act.put, List.setIfInBounds_toArray, List.set_cons_zero, List.set_cons_succ]
    clear hS
    have hS := hS0
    clear hS0
    refine wpAnyH_ready (rs := [4]) (by kernel_rfl) (by simp) ?_
    refine AllReadyH.cons rfl (fun K hK => ?_) AllReadyH.nil
    refine want (by kernel_rfl) ?_
    refine wp_append_ow (some 7) rfl (.tmp 3) (.tmp 6) rfl (B + 1) v bs rfl (ho.drew.alloc _) _ _ 10 (pv u) rfl (BV.pv _ hu0.1) (by omega) (by show B + 1 ≤ (w.alloc (pvObj u)).heap.size; rw [heap_alloc]; omega) ?_
    intro v2 w2 ho2 hb2
    obtain ⟨a3, n3, c3, rfl⟩ := ho2.shape
    refine hK.out _ _ (trivial) (fun hS0 => ?_)
    clear hK K
    try simp only [Act.put, List.setIfInBounds_toArray, List.set_cons_zero, List.set_cons_succ]
    clear hS
    have hS := hS0
    clear hS0
    have hc2 : Cap w2 B v := (hc.drew.alloc (pvObj u)).below hb2 (by omega)
    have c2 := cell_of_one hc2
    have f2 := free_of_one hc2
    refine wpAnyH_ready (rs := [5]) (by kernel_rfl) (by simp) ?_
    refine AllReadyH.cons rfl (fun K hK => ?_) AllReadyH.nil
    go_simp
    refine hK.out _ _ (trivial) (fun hS0 => ?_)
    clear hK K
    try simp only [Act.put, List.setIfInBounds_toArray, List.set_cons_zero, List.set_cons_succ]
    clear hS
    have hS := hS0
    clear hS0
    refine wpAnyH_done (by kernel_rfl) (NoPanic.normal ?_) _
    go_end0
    exact ⟨rfl, _, one_setCell hc2, ho2.set _, ((((Below.refl B w).drew.alloc (by show B ≤ w.heap.size; omega) _).trans (hb2.mono (by omega))).setCell (by show B ≤ B; omega) _)⟩
theorem joinN_snoc (l : List Int) (x : Int) : joinN (l ++ [x]) = joinN l ++ pv x := by rw [joinN_app, joinN_one]
theorem u64_same {x : Int} (h0 : 0 ≤ x) (h1 : x ≤ 9223372036854775807) : IntKind.u64.wrap x = x := by rw [IntKind.wrap_u64]; omega
theorem take_snocI (ts : List Int) (j : Nat) (h : j < ts.length) : ts.take (j + 1) = ts.take j ++ [ts.getD j 0] := by
  rw [List.take_succ_eq_append_getElem h]; simp [List.getD, h]
theorem type_at {ts : List Int} {k m g : Int} (h : checkB ts k m g = true) {j : Nat} (hj : j < ts.length) : 1 ≤ ts.getD j 0 ∧ ts.getD j 0 ≤ 3 := by
  have := (check_is h).2.2.2.2.2.2.2.2 (ts[j]) (List.getElem_mem hj)
  simpa [List.getD, hj] using this
theorem Sx.low {w w' : World} {b base : Nat} {A : Option Addr} {N C : Nat} {k m g : Int} (h : Sx w b A N C k m g) (hb : Below base w w') (hB : b < base) : Sx w' b A N C k m g :=
  ⟨by rw [hb.cell (p := ⟨b, 0, none⟩) hB]; exact h.1, by rw [hb.cell (p := ⟨b, 1, none⟩) hB]; exact h.2.1, by rw [hb.cell (p := ⟨b, 2, none⟩) hB]; exact h.2.2.1, by rw [hb.cell (p := ⟨b, 3, none⟩) hB]; exact h.2.2.2⟩
set_option maxHeartbeats 2000000 in
theorem put_any (A : Option Addr) (N C : Nat) (ts : List Int) (k m g : Int) (w : World) (hv : IV w A N ts) (hk : checkB ts k m g = true) :
    Calls Try.prog 21 #[SS A N C k m g] w fun e w' => ∃ v, e = .returned v ∧ OW w' w.heap.size v (putS ts k m g) ∧ Below w.heap.size w w' := by
  have hl := Lib.hid (IV.len hv)
  obtain ⟨q1, q2, q3, q4, q5, q6, q7, q8, -⟩ := check_is hk
  rw [hl.out] at q1 q2 q4
  have HK := Lib.hid hk
  clear hk
  have hx : Sx ((w.alloc (.cells #[.slice A N C, .int .i64 k, .int .i64 m, .int .i64 g] 24)).alloc (.cells #[.slice none 0 0] 26)) w.heap.size A N C k m g := (Sx.new w A N C k m g 24).alloc _
  have hcap : Cap ((w.alloc (.cells #[.slice A N C, .int .i64 k, .int .i64 m, .int .i64 g] 24)).alloc (.cells #[.slice none 0 0] 26)) (w.heap.size + 1) (.slice none 0 0) := by
    have := heap_alloc_new (w.alloc (.cells #[.slice A N C, .int .i64 k, .int .i64 m, .int .i64 g] 24)) (.cells #[.slice none 0 0] 26)
    rw [heap_alloc] at this; exact this
  have hbel0 : Below (w.heap.size + 1) ((w.alloc (.cells #[.slice A N C, .int .i64 k, .int .i64 m, .int .i64 g] 24)).alloc (.cells #[.slice none 0 0] 26)) ((w.alloc (.cells #[.slice A N C, .int .i64 k, .int .i64 m, .int .i64 g] 24)).alloc (.cells #[.slice none 0 0] 26)) := Below.refl _ _
  have hbw : Below w.heap.size w ((w.alloc (.cells #[.slice A N C, .int .i64 k, .int .i64 m, .int .i64 g] 24)).alloc (.cells #[.slice none 0 0] 26)) := Joins.below_alloc2 _ _ _
  go_enter Try.func21, Try.ntmps21
  go_wp2_with fail
  refine (put1_any N N (w.heap.size + 1) _ [] _ (u64_same (by omega) (by omega)) hcap (.inl ⟨rfl, rfl⟩) (by simp)).mono ?_
  rintro e w1 ⟨rfl, v1, hc1, ho1, hb1⟩
  have hx1 := hx.low hb1 (by omega)
  have hw1 : Below w.heap.size w w1 := hbw.trans (hb1.mono (by omega))
  clear hx hcap hbel0 hbw hb1
  obtain ⟨c0, -, -, -⟩ := id hx1
  have hlp := pv_len10 (x := (N : Int)) (by omega)
  go_wp2_with fail
  clear c0
  go_loopw [16] (fun i wr => ∃ (j : Nat) (v : Value) (bs : List Int), j ≤ N ∧ i = .int .i64 (j : Int) ∧ Hid (bs = joinN ((N : Int) :: ts.take j)) ∧ bs.length ≤ 10 * (j + 1) ∧ Cap wr (w.heap.size + 1) v ∧ OW wr (w.heap.size + 1 + 1) v bs ∧ Sx wr w.heap.size A N C k m g ∧ Below w.heap.size w wr) (fun i _ => N - (intOf i).toNat)
  case atStart => exact ⟨0, v1, _, by omega, rfl, Lib.hid (by simp [joinN]), by simpa using hlp, hc1, ho1, hx1, hw1⟩
  case round =>
    obtain ⟨j, v, bs, hj, rfl, HB, hbl, hc, ho, hx, hbel⟩ := hrel
    clear hc1 ho1 hx1 hw1 hlp
    by_cases hlt : j < N
    · obtain ⟨b, off, rfl, hcl⟩ := IV.at hv j hlt
      have hcl' := keepc hcl hbel
      have hr := type_at HK.out (j := j) (by rw [hl.out]; exact hlt)
      have HS := Lib.hid (take_snocI ts j (by rw [hl.out]; exact hlt))
      generalize ts.getD j 0 = x at hcl' hr HS
      clear hcl
      have hlp := pv_len10 (x := x) (by omega)
      go_wp2_with fail
      refine (put1_any x x (w.heap.size + 1) _ bs _ (u64_same (by omega) (by omega)) hc ho (by omega)).mono ?_
      rintro e w2 ⟨rfl, v2, hc2, ho2, hb2⟩
      have hx2 := hx.low hb2 (by omega)
      have hw2 : Below w.heap.size w w2 := hbel.trans (hb2.mono (by omega))
      clear hc ho hx hbel hb2 hcl'
      go_wp2_with fail
      go_roundw
      case rel => exact ⟨j + 1, v2, _, by omega, by go_num, Lib.hid (by rw [HS.out, HB.out, ← List.cons_append, joinN_snoc]), by rw [List.length_append]; omega, hc2, ho2, hx2, hw2⟩
      case measure => simp [intOf]; omega
    · obtain rfl : j = N := by omega
      have HB' : Hid (bs = joinN ((j : Int) :: ts)) := Lib.hid (by rw [HB.out, ← hl.out, List.take_length])
      obtain ⟨-, c1, -, -⟩ := id hx
      go_wp2_with fail
      refine (put1_any k k (w.heap.size + 1) _ bs _ (u64_same (by omega) (by omega)) hc ho (by omega)).mono ?_
      rintro e w2 ⟨rfl, v2, hc2, ho2, hb2⟩
      have hx2 := hx.low hb2 (by omega)
      have hw2 : Below w.heap.size w w2 := hbel.trans (hb2.mono (by omega))
      have l1 := pv_len10 (x := k) (by omega)
      have l2 := pv_len10 (x := m) (by omega)
      clear c1 hc ho hx hbel hb2
      obtain ⟨-, -, c2, -⟩ := id hx2
      go_wp2_with fail
      refine (put1_any m m (w.heap.size + 1) _ _ _ (u64_same (by omega) (by omega)) hc2 ho2 (by simp only [List.length_append]; omega)).mono ?_
      rintro e w3 ⟨rfl, v3, hc3, ho3, hb3⟩
      have hx3 := hx2.low hb3 (by omega)
      have hw3 : Below w.heap.size w w3 := hw2.trans (hb3.mono (by omega))
      clear c2 hc2 ho2 hx2 hw2 hb3
      obtain ⟨-, -, -, c3⟩ := id hx3
      go_wp2_with fail
      refine (put1_any g g (w.heap.size + 1) _ _ _ (u64_same (by omega) (by omega)) hc3 ho3 (by simp only [List.length_append]; omega)).mono ?_
      rintro e w4 ⟨rfl, v4, hc4, ho4, hb4⟩
      have hw4 : Below w.heap.size w w4 := hw3.trans (hb4.mono (by omega))
      clear c3 hc3 ho3 hx3 hw3 hb4
      have c4 := cell_of_one hc4
      go_wp2_with fail
      go_ret
      refine ⟨_, rfl, ?_, hw4⟩
      have e : bs ++ pv k ++ pv m ++ pv g = putS ts k m g := by
        rw [HB'.out, putS, schemaN, hl.out, ← List.cons_append, joinN_app]
        simp [joinN]
      rw [e] at ho4
      exact ho4.mono (by omega)
end Go.Proofs.Ytllgnafbemmcaaa
