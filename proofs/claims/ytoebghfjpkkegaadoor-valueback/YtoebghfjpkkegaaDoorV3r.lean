/- How values are read: guess, Read. -/
import Derived.Test.YtoebghfjpkkegaaDoorV3j
import Derived.Test.YtoebghfjpkkegaaDoorV3w
import Derived.Lib.ParseIntBTie
namespace Go.Proofs.YtoebghfjpkkegaaDoor
open Go.ChangeShapes Go.WideShapes Go.ChangeAt Go.RowKit
set_option linter.unusedVariables false

/-- a number of 64 bits -/
abbrev Rg (n : Int) : Prop := -9223372036854775808 ≤ n ∧ n ≤ 9223372036854775807
theorem intS_inj {n m : Int} (h : intS n = intS m) : n = m := by
  have no45 : ∀ (x : Nat) (r : List Int), digits x ≠ 45 :: r := fun x r h => by
    have := digits_bytes x 45 (by rw [h]; exact List.mem_cons_self ..); omega
  unfold intS at h
  by_cases h1 : n < 0 <;> by_cases h2 : m < 0
  · rw [if_pos h1, if_pos h2] at h
    have := digits_inj (List.cons.inj h).2
    omega
  · rw [if_pos h1, if_neg h2] at h; exact absurd h.symm (no45 _ _)
  · rw [if_neg h1, if_pos h2] at h; exact absurd h (no45 _ _)
  · rw [if_neg h1, if_neg h2] at h
    have := digits_inj h
    omega
/-- a value is written in one way -/
theorem textL_inj {t n m : Int} {s r : ByteArray} (h1 : fitsB t n s = true) (h2 : fitsB t m r = true) (q1 : Rg n) (q2 : Rg m) (h : textL t n s = textL t m r) : n = m ∧ s = r := by
  rw [textL_is h1, textL_is h2] at h
  by_cases t1 : t = 1
  · subst t1
    rw [if_pos rfl, if_pos rfl] at h
    exact ⟨intS_inj h, by rw [fits_empty (.inl rfl) h1, fits_empty (.inl rfl) h2]⟩
  · by_cases t2 : t = 2
    · subst t2
      rw [if_neg t1, if_pos rfl, if_neg t1, if_pos rfl] at h
      have := digits_inj h
      rw [IntKind.wrap_u64, IntKind.wrap_u64] at this
      exact ⟨by omega, by rw [fits_empty (.inr rfl) h1, fits_empty (.inr rfl) h2]⟩
    · rw [if_neg t1, if_neg t2, if_neg t1, if_neg t2] at h
      have t3 : t = 3 := by have := h1; unfold fitsB at this; simp [t1, t2] at this; exact this.1
      subst t3
      have n0 : ∀ {n : Int} {s : ByteArray}, fitsB 3 n s = true → n = 0 := by intro n s h; simp [fitsB] at h; exact h.1
      exact ⟨by rw [n0 h1, n0 h2], nums_inj (textS_inj (nums_bytes s) (nums_bytes r) h)⟩
theorem parseI_rg {l : List UInt8} {v : Int} (h : Lib.parseIntB 64 l = .ok v) : Rg v := by
  have := Lib.parseIntB_bounds h
  omega
/-- the answer of 'guess': right, if s is how a value is written -/
def GuR (t : Int) (s : ByteArray) (w : World) (e : Ending) (w' : World) : Prop := Below w.heap.size w w' ∧ ∃ n T ok, e = .returned (.tuple #[VV n T, .bool ok]) ∧ (ok = true → Rg n ∧ s.size ≠ 0) ∧
  ∀ n' s', fitsB t n' s' = true → Rg n' → textL t n' s' = nums s → ok = true ∧ n = n' ∧ T = s'
theorem str_of_text {t n : Int} {x s : ByteArray} (h : textL t n x = nums s) : s = strOfNums (textL t n x) := by rw [h, str_nums]
theorem parse_ne {s : ByteArray} {v : Int} (h : Lib.parseIntB 64 s.data.toList = .ok v) : s.size ≠ 0 := fun h0 => by
  have : s.data.toList = [] := List.eq_nil_of_length_eq_zero (by rw [Array.length_toList]; exact h0)
  rw [this] at h; cases h
theorem parse_neU {s : ByteArray} {v : Nat} (h : Lib.parseUintB 64 s.data.toList = .ok v) : s.size ≠ 0 := fun h0 => by
  have : s.data.toList = [] := List.eq_nil_of_length_eq_zero (by rw [Array.length_toList]; exact h0)
  rw [this] at h; cases h
theorem int_text {n' : Int} {s s' : ByteArray} (hf : fitsB 1 n' s' = true) (hq : Rg n') (ht : textL 1 n' s' = nums s) : Lib.parseIntB 64 s.data.toList = .ok n' ∧ s' = ⟨#[]⟩ := by
  refine ⟨?_, fits_empty (.inl rfl) hf⟩
  rw [str_of_text ht, textL_is hf, if_pos rfl, ← itoa_str]
  exact parseI_itoa hq.1 hq.2
theorem uint_text {n' : Int} {s s' : ByteArray} (hf : fitsB 2 n' s' = true) (hq : Rg n') (ht : textL 2 n' s' = nums s) : Lib.parseUintB 64 s.data.toList = .ok (IntKind.u64.wrap n').toNat ∧ s' = ⟨#[]⟩ := by
  refine ⟨?_, fits_empty (.inr rfl) hf⟩
  rw [str_of_text ht, textL_is hf, if_neg (by decide), if_pos rfl, ← dec_str]
  exact parseU_dec (by rw [IntKind.wrap_u64]; omega)
set_option maxHeartbeats 4000000 in
theorem guess_any (t : Int) (s : ByteArray) (w : World) (hmax : s.size ≤ 200) (hE : Env w) :
    Calls Tryd.prog 24 #[.int .i64 t, .string s] w (GuR t s w) := by
  by_cases h1 : t = 1
  · subst h1
    go_enter Tryd.func24, Tryd.ntmps24
    go_wp2_with fail
    refine (pint s hmax _ (hE.alloc _)).mono ?_
    rintro e w1 ⟨hb1, (⟨v, hv, rfl⟩ | ⟨hv, v, N, rfl⟩)⟩
    · have fr := (Fr.new (Below.refl w.heap.size w)).below hb1
      have hw1 := after1 hb1
      have HV := Lib.hid hv
      clear hv hb1
      obtain ⟨⟨z0, z1⟩, f0, f1, -⟩ := id fr
      go_wp2_with fail
      refine wp_region_noPanic ?_
      refine wp_region_held_drew (S := fun _ => True) (by kernel_rfl) (trivial) (fun hS => ?_)
      refine take_at (i := 0) (v := ?_) (some 20) rfl (by kernel_rfl) (by kernel_rfl) (by kernel_rfl) rfl (fun _ _ _ h => h) (Or.inl ⟨by rfl, ?_⟩) hS ?_
      rotate_left
      · (intro wq hq; go_simp); first | done | with_reducible rfl
      try simp only [Act.put, List.setIfInBounds_toArray, List.set_cons_zero, List.set_cons_succ]
      refine take_at (i := 1) (v := ?_) (some 21) rfl (by kernel_rfl) (by kernel_rfl) (by kernel_rfl) rfl (fun _ _ _ h => h) (Or.inl ⟨by rfl, ?_⟩) hS ?_
      rotate_left
      · (intro wq hq; go_simp); first | done | with_reducible rfl
      try simp only [Act.put, List.setIfInBounds_toArray, List.set_cons_zero, List.set_cons_succ]
      refine take_at (i := 2) (v := ?_) (some 22) rfl (by kernel_rfl) (by kernel_rfl) (by kernel_rfl) rfl (fun _ _ _ h => h) (Or.inl ⟨by rfl, ?_⟩) hS ?_
      rotate_left
      · (intro wq hq; go_simp); first | done | with_reducible rfl
      try simp only [Act.put, List.setIfInBounds_toArray, List.set_cons_zero, List.set_cons_succ]
      refine take_at (i := 3) (v := ?_) (some 23) rfl (by kernel_rfl) (by kernel_rfl) (by kernel_rfl) rfl (fun _ _ _ h => h) (Or.inl ⟨by rfl, ?_⟩) hS ?_
      rotate_left
      · (intro wq hq; go_simp); first | done | with_reducible rfl
      try simp only [Act.put, List.setIfInBounds_toArray, List.set_cons_zero, List.set_cons_succ]
      refine wpAnyH_ready (rs := [4]) (by kernel_rfl) (by simp) ?_
      refine AllReadyH.cons rfl (fun K hK => ?_) AllReadyH.nil
      go_simp
      refine hK.out _ _ (trivial) (fun hS0 => ?_)
      clear hK K
      try simp only [Act.put, List.setIfInBounds_toArray, List.set_cons_zero, List.set_cons_succ]
      clear hS
      have hS := hS0
      clear hS0
      refine take_at (i := 5) (v := ?_) (some 5) rfl (by kernel_rfl) (by kernel_rfl) (by kernel_rfl) rfl (fun _ _ _ h => h) (Or.inl ⟨by rfl, ?_⟩) hS ?_
      rotate_left
      · (intro wq hq; go_simp); first | done | with_reducible rfl
      try simp only [Act.put, List.setIfInBounds_toArray, List.set_cons_zero, List.set_cons_succ]
      refine wpAnyH_done (by kernel_rfl) (NoPanic.normal ?_) _
      go_wp2_with fail
      (try simp only [Exit.inBlock, Exit.then])
      refine bodyPost_ret (res_vv2 rfl _ _ rfl (Bx.put ⟨z0, z1⟩ _ _)) rfl ?_
      refine ⟨((hw1.drew).setCell (Nat.le_refl _) _).setCell (Nat.le_refl _) _, _, _, _, rfl, fun _ => ⟨parseI_rg HV.out, parse_ne HV.out⟩, fun n' s' hf hq ht => ?_⟩
      obtain ⟨e1, e2⟩ := int_text hf hq ht
      have e3 := HV.out.symm.trans e1
      simp only [Lib.NumEnd.ok.injEq] at e3
      exact ⟨rfl, e3, e2.symm⟩
    · skip
      have fr := (Fr.new (Below.refl w.heap.size w)).below hb1
      have hw1 := after1 hb1
      have HV := Lib.hid hv
      clear hv hb1
      obtain ⟨⟨z0, z1⟩, f0, f1, -⟩ := id fr
      go_wp2_with fail
      refine wp_region_noPanic ?_
      refine wp_region_held_drew (S := fun _ => True) (by kernel_rfl) (trivial) (fun hS => ?_)
      refine take_at (i := 0) (v := ?_) (some 20) rfl (by kernel_rfl) (by kernel_rfl) (by kernel_rfl) rfl (fun _ _ _ h => h) (Or.inl ⟨by rfl, ?_⟩) hS ?_
      rotate_left
      · (intro wq hq; go_simp); first | done | with_reducible rfl
      try simp only [Act.put, List.setIfInBounds_toArray, List.set_cons_zero, List.set_cons_succ]
      refine take_at (i := 1) (v := ?_) (some 21) rfl (by kernel_rfl) (by kernel_rfl) (by kernel_rfl) rfl (fun _ _ _ h => h) (Or.inl ⟨by rfl, ?_⟩) hS ?_
      rotate_left
      · (intro wq hq; go_simp); first | done | with_reducible rfl
      try simp only [Act.put, List.setIfInBounds_toArray, List.set_cons_zero, List.set_cons_succ]
      refine take_at (i := 2) (v := ?_) (some 22) rfl (by kernel_rfl) (by kernel_rfl) (by kernel_rfl) rfl (fun _ _ _ h => h) (Or.inl ⟨by rfl, ?_⟩) hS ?_
      rotate_left
      · (intro wq hq; go_simp); first | done | with_reducible rfl
      try simp only [Act.put, List.setIfInBounds_toArray, List.set_cons_zero, List.set_cons_succ]
      refine take_at (i := 3) (v := ?_) (some 23) rfl (by kernel_rfl) (by kernel_rfl) (by kernel_rfl) rfl (fun _ _ _ h => h) (Or.inl ⟨by rfl, ?_⟩) hS ?_
      rotate_left
      · (intro wq hq; go_simp); first | done | with_reducible rfl
      try simp only [Act.put, List.setIfInBounds_toArray, List.set_cons_zero, List.set_cons_succ]
      refine wpAnyH_ready (rs := [4]) (by kernel_rfl) (by simp) ?_
      refine AllReadyH.cons rfl (fun K hK => ?_) AllReadyH.nil
      go_simp
      refine hK.out _ _ (trivial) (fun hS0 => ?_)
      clear hK K
      try simp only [Act.put, List.setIfInBounds_toArray, List.set_cons_zero, List.set_cons_succ]
      clear hS
      have hS := hS0
      clear hS0
      refine take_at (i := 5) (v := ?_) (some 5) rfl (by kernel_rfl) (by kernel_rfl) (by kernel_rfl) rfl (fun _ _ _ h => h) (Or.inl ⟨by rfl, ?_⟩) hS ?_
      rotate_left
      · (intro wq hq; go_simp); first | done | with_reducible rfl
      try simp only [Act.put, List.setIfInBounds_toArray, List.set_cons_zero, List.set_cons_succ]
      refine wpAnyH_done (by kernel_rfl) (NoPanic.normal ?_) _
      go_wp2_with fail
      (try simp only [Exit.inBlock, Exit.then])
      refine bodyPost_ret (res_vv2 rfl _ _ rfl (Bx.put ⟨z0, z1⟩ _ _)) rfl ?_
      refine ⟨((hw1.drew).setCell (Nat.le_refl _) _).setCell (Nat.le_refl _) _, _, _, _, rfl, fun h => (nomatch h), fun n' s' hf hq ht => ?_⟩
      exact absurd (int_text hf hq ht).1 (HV.out n')
  by_cases h2 : t = 2
  · subst h2
    go_enter Tryd.func24, Tryd.ntmps24
    go_wp2_with fail
    refine (puint s hmax _ (hE.alloc _)).mono ?_
    rintro e w1 ⟨hb1, (⟨v, hv, rfl⟩ | ⟨hv, v, N, rfl⟩)⟩
    · skip
      have fr := (Fr.new (Below.refl w.heap.size w)).below hb1
      have hw1 := after1 hb1
      have HV := Lib.hid hv
      clear hv hb1
      obtain ⟨⟨z0, z1⟩, f0, f1, -⟩ := id fr
      go_wp2_with fail
      refine wp_region_noPanic ?_
      refine wp_region_held_drew (S := fun _ => True) (by kernel_rfl) (trivial) (fun hS => ?_)
      refine take_at (i := 0) (v := ?_) (some 31) rfl (by kernel_rfl) (by kernel_rfl) (by kernel_rfl) rfl (fun _ _ _ h => h) (Or.inl ⟨by rfl, ?_⟩) hS ?_
      rotate_left
      · (intro wq hq; go_simp); first | done | with_reducible rfl
      try simp only [Act.put, List.setIfInBounds_toArray, List.set_cons_zero, List.set_cons_succ]
      refine take_at (i := 1) (v := ?_) (some 32) rfl (by kernel_rfl) (by kernel_rfl) (by kernel_rfl) rfl (fun _ _ _ h => h) (Or.inl ⟨by rfl, ?_⟩) hS ?_
      rotate_left
      · (intro wq hq; go_simp); first | done | with_reducible rfl
      try simp only [Act.put, List.setIfInBounds_toArray, List.set_cons_zero, List.set_cons_succ]
      refine take_at (i := 2) (v := ?_) (some 33) rfl (by kernel_rfl) (by kernel_rfl) (by kernel_rfl) rfl (fun _ _ _ h => h) (Or.inl ⟨by rfl, ?_⟩) hS ?_
      rotate_left
      · (intro wq hq; go_simp); first | done | with_reducible rfl
      try simp only [Act.put, List.setIfInBounds_toArray, List.set_cons_zero, List.set_cons_succ]
      refine take_at (i := 3) (v := ?_) (some 34) rfl (by kernel_rfl) (by kernel_rfl) (by kernel_rfl) rfl (fun _ _ _ h => h) (Or.inl ⟨by rfl, ?_⟩) hS ?_
      rotate_left
      · (intro wq hq; go_simp); first | done | with_reducible rfl
      try simp only [Act.put, List.setIfInBounds_toArray, List.set_cons_zero, List.set_cons_succ]
      refine take_at (i := 4) (v := ?_) (some 35) rfl (by kernel_rfl) (by kernel_rfl) (by kernel_rfl) rfl (fun _ _ _ h => h) (Or.inl ⟨by rfl, ?_⟩) hS ?_
      rotate_left
      · (intro wq hq; go_simp); first | done | with_reducible rfl
      try simp only [Act.put, List.setIfInBounds_toArray, List.set_cons_zero, List.set_cons_succ]
      refine wpAnyH_ready (rs := [5]) (by kernel_rfl) (by simp) ?_
      refine AllReadyH.cons rfl (fun K hK => ?_) AllReadyH.nil
      go_simp
      refine hK.out _ _ (trivial) (fun hS0 => ?_)
      clear hK K
      try simp only [Act.put, List.setIfInBounds_toArray, List.set_cons_zero, List.set_cons_succ]
      clear hS
      have hS := hS0
      clear hS0
      refine take_at (i := 6) (v := ?_) (some 5) rfl (by kernel_rfl) (by kernel_rfl) (by kernel_rfl) rfl (fun _ _ _ h => h) (Or.inl ⟨by rfl, ?_⟩) hS ?_
      rotate_left
      · (intro wq hq; go_simp); first | done | with_reducible rfl
      try simp only [Act.put, List.setIfInBounds_toArray, List.set_cons_zero, List.set_cons_succ]
      refine wpAnyH_done (by kernel_rfl) (NoPanic.normal ?_) _
      go_wp2_with fail
      (try simp only [Exit.inBlock, Exit.then])
      refine bodyPost_ret (res_vv2 rfl _ _ rfl (Bx.put ⟨z0, z1⟩ _ _)) rfl ?_
      refine ⟨((hw1.drew).setCell (Nat.le_refl _) _).setCell (Nat.le_refl _) _, _, _, _, rfl, fun _ => ?_, fun n' s' hf hq ht => ?_⟩
      · exact ⟨by (show Rg _; rw [IntKind.wrap_i64]; constructor <;> omega), parse_neU HV.out⟩
      · obtain ⟨e1, e2⟩ := uint_text hf hq ht
        have e3 := HV.out.symm.trans e1
        simp only [Lib.NumEnd.ok.injEq] at e3
        subst e3
        refine ⟨rfl, ?_, e2.symm⟩
        rw [IntKind.wrap_i64, IntKind.wrap_u64]
        omega
    · skip
      have fr := (Fr.new (Below.refl w.heap.size w)).below hb1
      have hw1 := after1 hb1
      have HV := Lib.hid hv
      clear hv hb1
      obtain ⟨⟨z0, z1⟩, f0, f1, -⟩ := id fr
      go_wp2_with fail
      refine wp_region_noPanic ?_
      refine wp_region_held_drew (S := fun _ => True) (by kernel_rfl) (trivial) (fun hS => ?_)
      refine take_at (i := 0) (v := ?_) (some 31) rfl (by kernel_rfl) (by kernel_rfl) (by kernel_rfl) rfl (fun _ _ _ h => h) (Or.inl ⟨by rfl, ?_⟩) hS ?_
      rotate_left
      · (intro wq hq; go_simp); first | done | with_reducible rfl
      try simp only [Act.put, List.setIfInBounds_toArray, List.set_cons_zero, List.set_cons_succ]
      refine take_at (i := 1) (v := ?_) (some 32) rfl (by kernel_rfl) (by kernel_rfl) (by kernel_rfl) rfl (fun _ _ _ h => h) (Or.inl ⟨by rfl, ?_⟩) hS ?_
      rotate_left
      · (intro wq hq; go_simp); first | done | with_reducible rfl
      try simp only [Act.put, List.setIfInBounds_toArray, List.set_cons_zero, List.set_cons_succ]
      refine take_at (i := 2) (v := ?_) (some 33) rfl (by kernel_rfl) (by kernel_rfl) (by kernel_rfl) rfl (fun _ _ _ h => h) (Or.inl ⟨by rfl, ?_⟩) hS ?_
      rotate_left
      · (intro wq hq; go_simp); first | done | with_reducible rfl
      try simp only [Act.put, List.setIfInBounds_toArray, List.set_cons_zero, List.set_cons_succ]
      refine take_at (i := 3) (v := ?_) (some 34) rfl (by kernel_rfl) (by kernel_rfl) (by kernel_rfl) rfl (fun _ _ _ h => h) (Or.inl ⟨by rfl, ?_⟩) hS ?_
      rotate_left
      · (intro wq hq; go_simp); first | done | with_reducible rfl
      try simp only [Act.put, List.setIfInBounds_toArray, List.set_cons_zero, List.set_cons_succ]
      refine take_at (i := 4) (v := ?_) (some 35) rfl (by kernel_rfl) (by kernel_rfl) (by kernel_rfl) rfl (fun _ _ _ h => h) (Or.inl ⟨by rfl, ?_⟩) hS ?_
      rotate_left
      · (intro wq hq; go_simp); first | done | with_reducible rfl
      try simp only [Act.put, List.setIfInBounds_toArray, List.set_cons_zero, List.set_cons_succ]
      refine wpAnyH_ready (rs := [5]) (by kernel_rfl) (by simp) ?_
      refine AllReadyH.cons rfl (fun K hK => ?_) AllReadyH.nil
      go_simp
      refine hK.out _ _ (trivial) (fun hS0 => ?_)
      clear hK K
      try simp only [Act.put, List.setIfInBounds_toArray, List.set_cons_zero, List.set_cons_succ]
      clear hS
      have hS := hS0
      clear hS0
      refine take_at (i := 6) (v := ?_) (some 5) rfl (by kernel_rfl) (by kernel_rfl) (by kernel_rfl) rfl (fun _ _ _ h => h) (Or.inl ⟨by rfl, ?_⟩) hS ?_
      rotate_left
      · (intro wq hq; go_simp); first | done | with_reducible rfl
      try simp only [Act.put, List.setIfInBounds_toArray, List.set_cons_zero, List.set_cons_succ]
      refine wpAnyH_done (by kernel_rfl) (NoPanic.normal ?_) _
      go_wp2_with fail
      (try simp only [Exit.inBlock, Exit.then])
      refine bodyPost_ret (res_vv2 rfl _ _ rfl (Bx.put ⟨z0, z1⟩ _ _)) rfl ?_
      refine ⟨((hw1.drew).setCell (Nat.le_refl _) _).setCell (Nat.le_refl _) _, _, _, _, rfl, fun h => (nomatch h), fun n' s' hf hq ht => ?_⟩
      exact absurd (uint_text hf hq ht).1 (HV.out _)
  by_cases h3 : t = 3
  · subst h3
    go_enter Tryd.func24, Tryd.ntmps24
    go_wp2_with fail
    refine (unquoted_any s _ hmax (hE.alloc _)).mono ?_
    rintro e w1 ⟨hb1, T, ok, rfl, hu⟩
    have fr := (Fr.new (Below.refl w.heap.size w)).below hb1
    have hw1 := after1 hb1
    have HU := Lib.hid hu
    clear hu hb1
    obtain ⟨⟨z0, z1⟩, f0, f1, -⟩ := id fr
    go_wp2_with fail
    (try simp only [Exit.inBlock, Exit.then])
    refine bodyPost_ret (res_vv2 rfl _ _ rfl (Bx.put ⟨z0, z1⟩ _ _)) rfl ?_
    refine ⟨(hw1.setCell (Nat.le_refl _) _).setCell (Nat.le_refl _) _, _, _, _, rfl, fun h => ⟨by omega, by have := HU.out.1 h; omega⟩, fun n' s' hf hq ht => ?_⟩
    have e0 : n' = 0 := by have := hf; simp [fitsB] at this; exact this.1
    rw [textL_is hf, if_neg (by decide), if_neg (by decide)] at ht
    obtain ⟨e1, e2⟩ := HU.out.2 (nums s') (nums_bytes s') (by rw [nums_len]; exact fits_size hf) ht.symm
    exact ⟨e1, e0.symm, nums_inj e2⟩
  · have hno : ∀ n' s', fitsB t n' s' = false := fun n' s' => by simp [fitsB, h1, h2, h3]
    have HNO := Lib.hid hno
    clear hno
    go_enter Tryd.func24, Tryd.ntmps24
    go_wp2_with fail
    (try simp only [Exit.inBlock, Exit.then])
    refine bodyPost_ret (res_vv2 rfl _ _ rfl (Bx.new w 0 ⟨#[]⟩ 23)) rfl ?_
    exact ⟨Joins.below_alloc1 _ _, _, _, _, rfl, fun h => (nomatch h), fun n' s' hf hq ht => by rw [HNO.out] at hf; cases hf⟩
/-- the answer of 'Read' -/
def RdR (t : Int) (s : ByteArray) (w : World) (e : Ending) (w' : World) : Prop := Below w.heap.size w w' ∧ ∃ n T ok, e = .returned (.tuple #[VV n T, .bool ok]) ∧
  ((ok = true ∧ fitsB t n T = true ∧ Rg n ∧ textL t n T = nums s) ∨ (ok = false ∧ n = 0 ∧ T = ⟨#[]⟩ ∧ ∀ n' s', fitsB t n' s' = true → Rg n' → textL t n' s' ≠ nums s))
set_option maxHeartbeats 4000000 in
theorem read_any (t : Int) (s : ByteArray) (w : World) (hmax : s.size ≤ 200) (hE : Env w) :
    Calls Tryd.prog 12 #[.int .i64 t, .string s] w (RdR t s w) := by
  go_enter Tryd.func12, Tryd.ntmps12
  go_wp2_with fail
  refine (guess_any t s _ hmax (hE.alloc _)).mono ?_
  rintro e w1 ⟨hb1, n, T, ok, rfl, hq, hu⟩
  have fr := (Fr.new (Below.refl w.heap.size w)).below hb1
  have hw1 := after1 hb1
  have hE1 := (hE.alloc _).below hb1
  have HU := Lib.hid hu
  have HQ := Lib.hid hq
  clear hu hb1 hq
  cases ok
  · have fr2 := fr.below (Joins.below_alloc1 w1 (.cells #[.int .i64 n, .string T] 23))
    have hw2 := Below.then hw1 (Joins.below_alloc1 w1 (.cells #[.int .i64 n, .string T] 23))
    obtain ⟨⟨z0, z1⟩, f0, f1, -⟩ := id fr2
    clear fr
    go_wp2_with fail
    (try simp only [Exit.inBlock, Exit.then])
    refine bodyPost_ret (res_vv2 rfl _ _ rfl (fr2.1.put _ _)) rfl ?_
    exact ⟨(hw2.setCell (Nat.le_refl _) _).setCell (Nat.le_refl _) _, _, _, _, rfl, .inr ⟨rfl, rfl, rfl, fun n' s' hf hq ht => by have := HU.out n' s' hf hq ht; exact absurd this.1 (by decide)⟩⟩
  · obtain ⟨q, hne⟩ := HQ.out rfl
    have HNE := Lib.hid hne
    clear hne
    go_wp2_with fail
    refine (text_any t n T _ q.1 q.2 (hE1.1.alloc _)).mono ?_
    rintro e w2 ⟨rfl, hb2⟩
    have xb := (Bx.new w1 n T 23).below hb2
    have fr2 := (fr.below (Joins.below_alloc1 w1 (.cells #[.int .i64 n, .string T] 23))).below hb2
    have hw2 := Below.then hw1 (after1 hb2)
    obtain ⟨⟨z0, z1⟩, f0, f1, -⟩ := id fr2
    obtain ⟨y0, y1⟩ := id xb
    clear fr hb2
    by_cases heq : strOfNums (textL t n T) = s
    · have heq2 : ((strOfNums (textL t n T)).toList == s.toList) = true := by rw [heq]; simp
      have HEQ := Lib.hid heq
      clear heq
      go_wp2_with fail
      (try simp only [Exit.inBlock, Exit.then])
      refine bodyPost_ret (res_vv2 rfl _ _ rfl (fr2.1.put _ _)) rfl ?_
      have hfit : fitsB t n T = true := by
        cases hf : fitsB t n T
        · have h := HEQ.out
          rw [textL_not hf] at h
          exact absurd (by rw [← h]; rfl) HNE.out
        · rfl
      refine ⟨(hw2.setCell (Nat.le_refl _) _).setCell (Nat.le_refl _) _, _, _, _, rfl, .inl ⟨rfl, hfit, q, ?_⟩⟩
      have hk : t = 1 ∨ t = 2 ∨ t = 3 := by
        unfold fitsB at hfit
        by_cases a1 : t = 1 ∨ t = 2
        · omega
        · rw [if_neg a1] at hfit
          by_cases a3 : t = 3
          · omega
          · rw [if_neg a3] at hfit; cases hfit
      rw [← HEQ.out, nums_str (textL_bytes hk hfit)]
    · have heq2 : ((strOfNums (textL t n T)).toList == s.toList) = false := by
        cases hb : ((strOfNums (textL t n T)).toList == s.toList)
        · rfl
        · exact absurd (toList_inj (beq_iff_eq.1 hb)) heq
      have HEQ := Lib.hid heq
      clear heq
      go_wp2_with fail
      (try simp only [Exit.inBlock, Exit.then])
      refine bodyPost_ret (res_vv2 rfl _ _ rfl (fr2.1.put _ _)) rfl ?_
      refine ⟨(hw2.setCell (Nat.le_refl _) _).setCell (Nat.le_refl _) _, _, _, _, rfl, .inr ⟨rfl, rfl, rfl, fun n' s' hf hq ht => ?_⟩⟩
      obtain ⟨-, e1, e2⟩ := HU.out n' s' hf hq ht
      subst e1 e2
      exact absurd (str_of_text ht).symm HEQ.out
end Go.Proofs.YtoebghfjpkkegaaDoor
