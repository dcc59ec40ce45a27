/- Texts that belong together, one behind the other: Q9a, Q9b, Q9c. -/
import Derived.Test.YtloohkgiicgndaaOrdA
import Derived.Test.YtloohkgiicgndaaBase
import Derived.Test.YtloohkgiicgndaaSchB
import Derived.Great.Walk
import Derived.Deep.DeepCutAuto
/- Rows that are put in order in place, in memory: two ranges change places, one range goes behind another. -/
namespace Go.Proofs.Ytloohkgiicgndaa
open Go.ChangeShapes Go.WideShapes Go.ChangeAt Go.RowKit
set_option linter.unusedVariables false
set_option maxRecDepth 4000

/-- a row's cell -/
abbrev Rw := Option Addr × Nat × Nat
abbrev sV (q : Rw) : Value := .slice q.1 q.2.1 q.2.2
/-- the cells of n things, arranged as s says -/
def rowsA (e : Nat → Rw) (n : Nat) (s : Nat → Nat) : Array Value := ((List.range n).map fun i => sV (e (s i))).toArray
theorem rowsA_at {e : Nat → Rw} {n : Nat} {s : Nat → Nat} {i : Nat} (h : i < n) : (rowsA e n s)[i]? = some (sV (e (s i))) := by
  simp [rowsA, h]
theorem rowsA_size (e : Nat → Rw) (n : Nat) (s : Nat → Nat) : (rowsA e n s).size = n := by simp [rowsA]
theorem rowsA_swap {e : Nat → Rw} {n : Nat} {s : Nat → Nat} {i j : Nat} (hi : i < n) (hj : j < n) : ((rowsA e n s).setIfInBounds i (sV (e (s j)))).setIfInBounds j (sV (e (s i))) = rowsA e n (fun x => s (swP i j x)) := by
  apply Array.ext_getElem?
  intro k
  by_cases hk : k < n
  · rw [rowsA_at hk, Array.getElem?_setIfInBounds, Array.getElem?_setIfInBounds, rowsA_at hk]
    simp only [Array.size_setIfInBounds, rowsA_size]
    unfold swP
    by_cases h1 : j = k
    · subst h1
      by_cases h2 : j = i
      · subst h2; simp [hj]
      · simp [hj, h2]
    · by_cases h2 : i = k
      · subst h2; simp [h1, hi]
      · rw [if_neg h1, if_neg h2, if_neg (by omega), if_neg (by omega)]
  · rw [Array.getElem?_eq_none (by simp [rowsA_size]; omega), Array.getElem?_eq_none (by rw [rowsA_size]; omega)]
theorem rowsA_eq {e : Nat → Rw} {n : Nat} {s t : Nat → Nat} (h : ∀ x, x < n → s x = t x) : rowsA e n s = rowsA e n t := by
  apply Array.ext_getElem?
  intro k
  by_cases hk : k < n
  · rw [rowsA_at hk, rowsA_at hk, h k hk]
  · rw [Array.getElem?_eq_none (by rw [rowsA_size]; omega), Array.getElem?_eq_none (by rw [rowsA_size]; omega)]
/-- block g has n rows, arranged as s says; all else is as it was in w0 -/
structure SW (w0 : World) (g n : Nat) (e : Nat → Rw) (s : Nat → Nat) (w : World) : Prop where
  kp : Kp (fun b => b = g) w0 w
  bk : Bk w g (rowsA e n s) 27
theorem SW.drew {w0 w : World} {g n : Nat} {e : Nat → Rw} {s : Nat → Nat} (h : SW w0 g n e s w) : SW w0 g n e s w.drew := ⟨h.kp.drew, h.bk.drew⟩
theorem SW.below {w0 w w' : World} {g n : Nat} {e : Nat → Rw} {s : Nat → Nat} (h : SW w0 g n e s w) (hb : Below w.heap.size w w') : SW w0 g n e s w' := ⟨h.kp.of_below hb (fun b hl _ => Nat.lt_of_lt_of_le hl h.kp.size), h.bk.below hb⟩
theorem SW.alloc {w0 w : World} {g n : Nat} {e : Nat → Rw} {s : Nat → Nat} (h : SW w0 g n e s w) (o : Obj) : SW w0 g n e s (w.alloc o) := ⟨h.kp.alloc o, h.bk.alloc o⟩
theorem SW.swap {w0 w : World} {g n : Nat} {e : Nat → Rw} {s : Nat → Nat} (h : SW w0 g n e s w) {i j : Nat} (hi : i < n) (hj : j < n) : SW w0 g n e (fun x => s (swP i j x)) ((w.setCell ⟨g, i, none⟩ (sV (e (s j)))).setCell ⟨g, j, none⟩ (sV (e (s i)))) :=
  ⟨(h.kp.setCell (.inl rfl) _).setCell (.inl rfl) _, by rw [← rowsA_swap hi hj]; exact (h.bk.set i _).set j _⟩
theorem SW.same {w0 w : World} {g n : Nat} {e : Nat → Rw} {s t : Nat → Nat} (h : SW w0 g n e s w) (hst : ∀ x, x < n → s x = t x) : SW w0 g n e t w := ⟨h.kp, by rw [← rowsA_eq hst]; exact h.bk⟩
/-- the function that holds two rows against each other -/
abbrev FV (fp : Value) : Value := .func (.func 32) #[] #[fp]
/-- it tells c of each two of the n rows, whatever was done to block g -/
def CmpG (w0 : World) (g n : Nat) (e : Nat → Rw) (fp : Value) (c : Nat → Nat → Int) : Prop :=
  ∀ w, Kp (fun b => b = g) w0 w → ∀ i j, i < n → j < n → Calls Try.prog 32 #[sV (e i), sV (e j), fp] w fun en w' => en = .returned (.int .i64 (c i j)) ∧ Below w.heap.size w w'
abbrev Gs (g n : Nat) : Value := .slice (some ⟨g, 0, none⟩) n n
set_option maxHeartbeats 1000000 in
theorem swaprange_any (w0 : World) (g n : Nat) (e : Nat → Rw) (fp : Value) (hn : n ≤ maxLen) (a b k : Nat) (hab : a + k ≤ b) (hb : b + k ≤ n) (s : Nat → Nat) (w : World) (hw : SW w0 g n e s w) :
    Calls Try.prog 47 #[Gs g n, .int .i64 (a : Int), .int .i64 (b : Int), .int .i64 (k : Int), FV fp] w fun en w' => en = .returned (.tuple #[]) ∧ SW w0 g n e (fun x => s (srP a b k x)) w' := by
  unfold maxLen at hn
  go_enter Try.func47, Try.ntmps47
  go_wp2_with fail
  go_loopw [10] (fun i wr => ∃ j : Nat, j ≤ k ∧ i = .int .i64 (j : Int) ∧ SW w0 g n e (fun x => s (srP a b j x)) wr) (fun i _ => k - (intOf i).toNat)
  case atStart => exact ⟨0, by omega, rfl, hw.same (fun x _ => by rw [srP_zero])⟩
  case round =>
    clear hw
    obtain ⟨j, hj, rfl, hr⟩ := hrel
    by_cases hlt : j < k
    · have hji : (j : Int) < (k : Int) := by omega
      obtain ⟨x, hx⟩ : ∃ x, a + j = x := ⟨_, rfl⟩
      obtain ⟨y, hy⟩ : ∃ y, b + j = y := ⟨_, rfl⟩
      have hp1 : x < n := by omega
      have hp2 : y < n := by omega
      have hw1 : IntKind.i64.wrap ((a : Int) + (j : Int)) = (x : Int) := by rw [IntKind.wrap_i64]; omega
      have hw2 : IntKind.i64.wrap ((b : Int) + (j : Int)) = (y : Int) := by rw [IntKind.wrap_i64]; omega
      have hst : ∀ z, srP a b j (swP x y z) = srP a b (j + 1) z := fun z => by rw [← hx, ← hy]; exact srP_one a b j z (.inr (.inr trivial)) (by omega)
      have HST := Lib.hid hst
      clear hst hx hy
      have e1 := hr.bk.cell x (rowsA_at hp1)
      have e2 := hr.bk.cell y (rowsA_at hp2)
      have f1 := hr.bk.free x
      have g1 : ∃ v, (wr.setCell ⟨g, x, none⟩ (sV (e (s (srP a b j y))))).cell? ⟨g, y, none⟩ = some v := ⟨_, (hr.bk.set x (sV (e (s (srP a b j y))))).cell y (by rw [Array.getElem?_eq_getElem (by simp [rowsA_size]; exact hp2)])⟩
      obtain ⟨v1, g1⟩ := g1
      have f2 := hr.bk.free y
      have HN := (hr.swap hp1 hp2).drew
      go_wp2_with fail
      refine wp_region_noPanic ?_
      refine region_g 21 (Ext (World.drew _)) (by kernel_rfl) (Ext.refl _) (fun hS => ?_)
      refine take_w (i := 0) (v := ?_) (some 16) rfl (by kernel_rfl) rfl (fun _ _ _ h => h) (Or.inl ⟨by rfl, ?_⟩) hS ?_
      rotate_left
      · (intro wq hq; go_simp); first | done | with_reducible rfl
      try simp only [Act.put, List.setIfInBounds_toArray, List.set_cons_zero, List.set_cons_succ]
      replace hS := Till.list 0 hS
      refine take_w (i := 1) (v := ?_) (some 17) rfl (by kernel_rfl) rfl (fun _ _ _ h => h) (Or.inl ⟨by rfl, ?_⟩) hS ?_
      rotate_left
      · (intro wq hq; go_simp); first | done | with_reducible rfl
      try simp only [Act.put, List.setIfInBounds_toArray, List.set_cons_zero, List.set_cons_succ]
      replace hS := Till.list 1 hS
      refine take_w (i := 2) (v := ?_) (some 18) rfl (by kernel_rfl) rfl (fun _ _ _ h => h) (Or.inl ⟨by rfl, ?_⟩) hS ?_
      rotate_left
      · (intro wq hq; go_simp); first | done | with_reducible rfl
      try simp only [Act.put, List.setIfInBounds_toArray, List.set_cons_zero, List.set_cons_succ]
      replace hS := Till.list 2 hS
      refine take_w (i := 4) (v := ?_) (some 20) rfl (by kernel_rfl) rfl (fun _ _ _ h => h) (Or.inl ⟨by rfl, ?_⟩) hS ?_
      rotate_left
      · (intro wq hq; go_simp); first | done | with_reducible rfl
      try simp only [Act.put, List.setIfInBounds_toArray, List.set_cons_zero, List.set_cons_succ]
      replace hS := Till.list 4 hS
      refine take_w (i := 5) (v := ?_) (some 21) rfl (by kernel_rfl) rfl (fun _ _ _ h => h) (Or.inl ⟨by rfl, ?_⟩) hS ?_
      rotate_left
      · (intro wq hq; go_simp); first | done | with_reducible rfl
      try simp only [Act.put, List.setIfInBounds_toArray, List.set_cons_zero, List.set_cons_succ]
      replace hS := Till.list 5 hS
      refine take_w (i := 6) (v := ?_) (some 22) rfl (by kernel_rfl) rfl (fun _ _ _ h => h) (Or.inl ⟨by rfl, ?_⟩) hS ?_
      rotate_left
      · (intro wq hq; go_simp); first | done | with_reducible rfl
      try simp only [Act.put, List.setIfInBounds_toArray, List.set_cons_zero, List.set_cons_succ]
      replace hS := Till.list 6 hS
      refine take_w (i := 8) (v := ?_) (some 24) rfl (by kernel_rfl) rfl (fun _ _ _ h => h) (Or.inl ⟨by rfl, ?_⟩) hS ?_
      rotate_left
      · (intro wq hq; go_simp); first | done | with_reducible rfl
      try simp only [Act.put, List.setIfInBounds_toArray, List.set_cons_zero, List.set_cons_succ]
      replace hS := Till.list 8 hS
      refine take_w (i := 9) (v := ?_) (some 25) rfl (by kernel_rfl) rfl (fun _ _ _ h => h) (Or.inl ⟨by rfl, ?_⟩) hS ?_
      rotate_left
      · (intro wq hq; go_simp); first | done | with_reducible rfl
      try simp only [Act.put, List.setIfInBounds_toArray, List.set_cons_zero, List.set_cons_succ]
      replace hS := Till.list 9 hS
      refine take_w (i := 10) (v := ?_) (some 26) rfl (by kernel_rfl) rfl (fun _ _ _ h => h) (Or.inl ⟨by rfl, ?_⟩) hS ?_
      rotate_left
      · (intro wq hq; go_simp); first | done | with_reducible rfl
      try simp only [Act.put, List.setIfInBounds_toArray, List.set_cons_zero, List.set_cons_succ]
      replace hS := Till.list 10 hS
      refine take_w (i := 14) (v := ?_) (some 30) rfl (by kernel_rfl) rfl (fun _ _ _ h => h) (Or.inl ⟨by rfl, ?_⟩) hS ?_
      rotate_left
      · (intro wq hq; go_simp); first | done | with_reducible rfl
      try simp only [Act.put, List.setIfInBounds_toArray, List.set_cons_zero, List.set_cons_succ]
      replace hS := Till.list 14 hS
      refine take_w (i := 15) (v := ?_) (some 31) rfl (by kernel_rfl) rfl (fun _ _ _ h => h) (Or.inl ⟨by rfl, ?_⟩) hS ?_
      rotate_left
      · (intro wq hq; go_simp); first | done | with_reducible rfl
      try simp only [Act.put, List.setIfInBounds_toArray, List.set_cons_zero, List.set_cons_succ]
      replace hS := Till.list 15 hS
      refine take_w (i := 16) (v := ?_) (some 32) rfl (by kernel_rfl) rfl (fun _ _ _ h => h) (Or.inl ⟨by rfl, ?_⟩) hS ?_
      rotate_left
      · (intro wq hq; go_simp); first | done | with_reducible rfl
      try simp only [Act.put, List.setIfInBounds_toArray, List.set_cons_zero, List.set_cons_succ]
      replace hS := Till.list 16 hS
      refine take_w (i := 3) (v := ?_) (some 19) rfl (by kernel_rfl) rfl (fun _ _ _ h => h) (Or.inl ⟨by rfl, ?_⟩) hS ?_
      rotate_left
      · (intro wq hq; go_simp); first | done | with_reducible rfl
      try simp only [Act.put, List.setIfInBounds_toArray, List.set_cons_zero, List.set_cons_succ]
      replace hS := Till.list 3 hS
      refine take_w (i := 7) (v := ?_) (some 23) rfl (by kernel_rfl) rfl (fun _ _ _ h => h) (Or.inl ⟨by rfl, ?_⟩) hS ?_
      rotate_left
      · (intro wq hq; go_simp); first | done | with_reducible rfl
      try simp only [Act.put, List.setIfInBounds_toArray, List.set_cons_zero, List.set_cons_succ]
      replace hS := Till.list 7 hS
      refine take_w (i := 11) (v := ?_) (some 27) rfl (by kernel_rfl) rfl (fun _ _ _ h => h) (Or.inl ⟨by rfl, ?_⟩) hS ?_
      rotate_left
      · (intro wq hq; go_simp); first | done | with_reducible rfl
      try simp only [Act.put, List.setIfInBounds_toArray, List.set_cons_zero, List.set_cons_succ]
      replace hS := Till.list 11 hS
      refine take_w (i := 17) (v := ?_) (some 33) rfl (by kernel_rfl) rfl (fun _ _ _ h => h) (Or.inl ⟨by rfl, ?_⟩) hS ?_
      rotate_left
      · (intro wq hq; go_simp); first | done | with_reducible rfl
      try simp only [Act.put, List.setIfInBounds_toArray, List.set_cons_zero, List.set_cons_succ]
      replace hS := Till.list 17 hS
      refine take_w (i := 12) (v := ?_) (some 28) rfl (by kernel_rfl) rfl (fun _ _ _ h => h) (Or.inl ⟨by rfl, ?_⟩) hS ?_
      rotate_left
      · (intro wq hq; go_simp); first | done | with_reducible rfl
      try simp only [Act.put, List.setIfInBounds_toArray, List.set_cons_zero, List.set_cons_succ]
      replace hS := Till.list 12 hS
      refine take_w (i := 18) (v := ?_) (some 34) rfl (by kernel_rfl) rfl (fun _ _ _ h => h) (Or.inl ⟨by rfl, ?_⟩) hS ?_
      rotate_left
      · (intro wq hq; go_simp); first | done | with_reducible rfl
      try simp only [Act.put, List.setIfInBounds_toArray, List.set_cons_zero, List.set_cons_succ]
      replace hS := Till.list 18 hS
      refine take_g (i := 13) (v := ?_) [13] (some 29) rfl (by kernel_rfl) rfl (fun _ _ _ h => h) (Or.inl ⟨by rfl, ?_⟩) hS ?_
      rotate_left
      · (intro wq hq; have q0 := hq _ _ _ e1; have q1 := hq _ _ _ e2; go_simp); first | done | with_reducible rfl
      try simp only [Act.put, List.setIfInBounds_toArray, List.set_cons_zero, List.set_cons_succ]
      replace hS := Till.list 13 hS
      refine take_g (i := 19) (v := ?_) [19] (some 35) rfl (by kernel_rfl) rfl (fun _ _ _ h => h) (Or.inl ⟨by rfl, ?_⟩) hS ?_
      rotate_left
      · (intro wq hq; have q0 := hq _ _ _ e1; have q1 := hq _ _ _ e2; go_simp); first | done | with_reducible rfl
      try simp only [Act.put, List.setIfInBounds_toArray, List.set_cons_zero, List.set_cons_succ]
      replace hS := Till.list 19 hS
      refine take_w (i := 20) (v := ?_) (some 36) rfl (by kernel_rfl) rfl (fun _ _ _ h => h) (Or.inl ⟨by rfl, ?_⟩) hS ?_
      rotate_left
      · (intro wq hq; go_simp); first | done | with_reducible rfl
      try simp only [Act.put, List.setIfInBounds_toArray, List.set_cons_zero, List.set_cons_succ]
      replace hS := Till.list 20 hS
      refine ready_g (rs := [21]) (by kernel_rfl) (by simp) ?_
      refine AllReadyG.cons rfl (fun Kont hK => ?_) AllReadyG.nil
      go_simp
      refine hK.out _ _ (Or.inl (by kernel_rfl)) (fun hS0 => ?_)
      clear hK Kont
      try simp only [Act.put, List.setIfInBounds_toArray, List.set_cons_zero, List.set_cons_succ]
      clear hS
      have hS := hS0
      clear hS0
      refine take_w (i := 22) (v := ?_) (some 37) rfl (by kernel_rfl) rfl (fun _ _ _ h => h) (Or.inl ⟨by rfl, ?_⟩) hS ?_
      rotate_left
      · (intro wq hq; go_simp); first | done | with_reducible rfl
      try simp only [Act.put, List.setIfInBounds_toArray, List.set_cons_zero, List.set_cons_succ]
      replace hS := Till.list 22 hS
      refine ready_g (rs := [23]) (by kernel_rfl) (by simp) ?_
      refine AllReadyG.cons rfl (fun Kont hK => ?_) AllReadyG.nil
      go_simp
      refine hK.out _ _ (Or.inl (by kernel_rfl)) (fun hS0 => ?_)
      clear hK Kont
      try simp only [Act.put, List.setIfInBounds_toArray, List.set_cons_zero, List.set_cons_succ]
      clear hS
      have hS := hS0
      clear hS0
      refine done_g (by kernel_rfl) (NoPanic.normal ?_) _
      clear hS
      go_wp2_with fail
      go_roundw
      case rel => exact ⟨j + 1, by omega, by go_num, HN.same (fun z _ => by rw [HST.out])⟩
      case measure => simp [intOf]; omega
    · obtain rfl : j = k := by omega
      go_wp2_with fail
      (try simp only [Exit.inBlock, Exit.then])
      refine Great.bodyPost_end0 rfl rfl ?_
      exact ⟨rfl, hr⟩
set_option maxHeartbeats 1000000 in
theorem rotate_any (w0 : World) (g n : Nat) (e : Nat → Rw) (fp : Value) (hn : n ≤ maxLen) (a m b : Nat) (ham : a < m) (hmb : m < b) (hb : b ≤ n) (s : Nat → Nat) (w : World) (hw : SW w0 g n e s w) :
    Calls Try.prog 42 #[Gs g n, .int .i64 (a : Int), .int .i64 (m : Int), .int .i64 (b : Int), FV fp] w fun en w' => en = .returned (.tuple #[]) ∧ SW w0 g n e (fun x => s (roP a m b x)) w' := by
  have hn' := hn
  unfold maxLen at hn'
  obtain ⟨x, hx⟩ : ∃ x, m - a = x := ⟨_, rfl⟩
  obtain ⟨y, hy⟩ : ∃ y, b - m = y := ⟨_, rfl⟩
  have w1 : IntKind.i64.wrap ((m : Int) - (a : Int)) = (x : Int) := by rw [IntKind.wrap_i64]; omega
  have w2 : IntKind.i64.wrap ((b : Int) - (m : Int)) = (y : Int) := by rw [IntKind.wrap_i64]; omega
  have h0 : (1 ≤ x ∧ x ≤ m) ∧ 1 ≤ y ∧ m + y ≤ n := by omega
  have HS : Hid (∀ z, s (roP (m - x) m (m + y) z) = s (roP a m b z)) := by
    intro z
    rw [show m - x = a by omega, show m + y = b by omega]
  clear hx hy
  go_enter Try.func42, Try.ntmps42
  go_wp2_with fail
  clear w1 w2
  go_loopw [10, 11] (fun vi vj wr => ∃ (i j : Nat) (t : Nat → Nat), (1 ≤ i ∧ i ≤ m) ∧ (1 ≤ j ∧ m + j ≤ n) ∧ vi = .int .i64 (i : Int) ∧ vj = .int .i64 (j : Int) ∧ SW w0 g n e t wr ∧ Hid (∀ z, t (roP (m - i) m (m + j) z) = s (roP a m b z))) (fun vi vj _ => (intOf vi).toNat + (intOf vj).toNat)
  case atStart => exact ⟨x, y, s, h0.1, h0.2, rfl, rfl, hw, HS⟩
  case round =>
    clear hw HS h0
    obtain ⟨i, j, t, hi, hj, rfl, rfl, hr, HS⟩ := hrel
    obtain ⟨p, hp⟩ : ∃ p, m - i = p := ⟨_, rfl⟩
    have w1 : IntKind.i64.wrap ((m : Int) - (i : Int)) = (p : Int) := by rw [IntKind.wrap_i64]; omega
    by_cases hij : i = j
    · subst hij
      have HP := Lib.hid hp
      clear hp
      go_wp2_with fail
      refine (swaprange_any w0 g n e fp hn p m i (by have := HP.out; omega) (by omega) t _ hr).mono ?_
      rintro en w' ⟨rfl, h⟩
      go_wp2_with fail
      (try simp only [Exit.inBlock, Exit.then])
      refine Great.bodyPost_end0 rfl rfl ?_
      exact ⟨rfl, h.same (fun z _ => by rw [← HS.out z, ← HP.out, roP_same hi.2])⟩
    · have hij' : ((i : Int) == (j : Int)) = false := by rw [beq_eq_false_iff_ne]; omega
      by_cases hlt : j < i
      · have hlt' : (j : Int) < (i : Int) := by omega
        obtain ⟨q, hq⟩ : ∃ q, i - j = q := ⟨_, rfl⟩
        have w2 : IntKind.i64.wrap ((i : Int) - (j : Int)) = (q : Int) := by rw [IntKind.wrap_i64]; omega
        have HP := Lib.hid hp
        have HQ := Lib.hid hq
        clear hp hq
        go_wp2_with fail
        refine (swaprange_any w0 g n e fp hn p m j (by have := HP.out; omega) (by omega) t _ hr).mono ?_
        rintro en w' ⟨rfl, h⟩
        go_wp2_with fail
        go_roundw
        case rel => exact ⟨q, j, _, by have := HQ.out; omega, hj, rfl, rfl, h, fun z => by
          show t (srP p m j (roP (m - q) m (m + j) z)) = _
          rw [← HS.out z, ← HP.out, ← HQ.out, roP_left hi.2 (by omega) hlt]⟩
        case measure => have := HQ.out; simp [intOf]; omega
      · have hlt' : ¬ (j : Int) < (i : Int) := by omega
        obtain ⟨q, hq⟩ : ∃ q, j - i = q := ⟨_, rfl⟩
        obtain ⟨r, hr'⟩ : ∃ r, m + j = r := ⟨_, rfl⟩
        have w2 : IntKind.i64.wrap ((j : Int) - (i : Int)) = (q : Int) := by rw [IntKind.wrap_i64]; omega
        have w3 : IntKind.i64.wrap ((m : Int) + (j : Int)) = (r : Int) := by rw [IntKind.wrap_i64]; omega
        obtain ⟨u, hu⟩ : ∃ u, r - i = u := ⟨_, rfl⟩
        have w4 : IntKind.i64.wrap ((r : Int) - (i : Int)) = (u : Int) := by rw [IntKind.wrap_i64]; omega
        have HP := Lib.hid hp
        have HQ := Lib.hid hq
        have HR := Lib.hid hr'
        have HU := Lib.hid hu
        clear hp hq hr' hu
        go_wp2_with fail
        refine (swaprange_any w0 g n e fp hn p u i (by have := HP.out; have := HU.out; have := HR.out; omega) (by have := HU.out; have := HR.out; omega) t _ hr).mono ?_
        rintro en w' ⟨rfl, h⟩
        go_wp2_with fail
        go_roundw
        case rel => exact ⟨i, q, _, hi, by have := HQ.out; omega, rfl, rfl, h, fun z => by
          show t (srP p u i (roP (m - i) m (m + q) z)) = _
          rw [← HS.out z, ← HP.out, ← HQ.out, ← HU.out, ← HR.out, roP_right hi.2 (by omega) (by omega)]⟩
        case measure => have := HQ.out; simp [intOf]; omega
end Go.Proofs.Ytloohkgiicgndaa
/- Rows that are put in order in place, in memory: the insertion. -/
namespace Go.Proofs.Ytloohkgiicgndaa
open Go.ChangeShapes Go.WideShapes Go.ChangeAt Go.RowKit
set_option linter.unusedVariables false
set_option maxRecDepth 4000

theorem swP_comm (i j x : Nat) : swP i j x = swP j i x := by
  unfold swP
  repeat' split
  all_goals first | omega | rfl
abbrev maxN : Nat := 1152921504606846976
theorem maxN_len {n : Nat} (h : n ≤ maxN) : n ≤ maxLen := by unfold maxN at h; unfold maxLen; omega
set_option maxHeartbeats 2000000 in
theorem insort_any (w0 : World) (g n : Nat) (e : Nat → Rw) (fp : Value) (c : Nat → Nat → Int) (hc : CmpG w0 g n e fp c) (ho : OrdN c) (hn : n ≤ maxN) (a b : Nat) (hab : a ≤ b) (hb : b ≤ n) (s : Nat → Nat) (hs : StA c n s) (w : World) (hw : SW w0 g n e s w) :
    Calls Try.prog 38 #[Gs g n, .int .i64 (a : Int), .int .i64 (b : Int), FV fp] w fun en w' => en = .returned (.tuple #[]) ∧ ∃ t, SymS c n s t a b ∧ SW w0 g n e t w' := by
  have hn' := hn
  unfold maxN at hn'
  have w1 : IntKind.i64.wrap ((a : Int) + 1) = ((a + 1 : Nat) : Int) := by rw [IntKind.wrap_i64]; omega
  have HT : Hid (SymS c n s s a a ∧ True) := ⟨⟨hs, MvS.refl _ _ _, InS.none c s (by omega)⟩, trivial⟩
  obtain ⟨x, hx⟩ : ∃ x, a + 1 = x := ⟨_, rfl⟩
  rw [hx] at w1
  have HX := Lib.hid hx
  have h0 : a < x ∧ (x ≤ b ∨ x = a + 1) := by omega
  clear hx
  go_enter Try.func38, Try.ntmps38
  go_wp2_with fail
  clear w1
  go_loopw [8] (fun vi wr => ∃ (i : Nat) (t : Nat → Nat), (a < i ∧ (i ≤ b ∨ i = a + 1)) ∧ vi = .int .i64 (i : Int) ∧ SW w0 g n e t wr ∧ Hid (StA c n t ∧ MvS a b s t ∧ InS c t a i)) (fun vi _ => b + 1 - (intOf vi).toNat)
  case atStart => exact ⟨x, s, h0, rfl, hw, ⟨hs, MvS.refl _ _ _, InS.none c s (by have := HX.out; omega)⟩⟩
  case round =>
    clear hw h0 HX
    obtain ⟨i, t, hi, rfl, hr, HI⟩ := hrel
    by_cases hib : i < b
    · have hib' : (i : Int) < (b : Int) := by omega
      go_wp2_with fail
      go_loopw [9] (fun vj wr => ∃ (j : Nat) (u : Nat → Nat), (a ≤ j ∧ j ≤ i) ∧ vj = .int .i64 (j : Int) ∧ SW w0 g n e u wr ∧ Hid (StA c n u ∧ MvS a b s u ∧ InsJ c u a i j)) (fun vj _ => (intOf vj).toNat)
      case atStart => exact ⟨i, t, by omega, rfl, hr, ⟨HI.out.1, HI.out.2.1, InsJ.start HI.out.2.2 (by omega)⟩⟩
      case round =>
        clear hr HI
        obtain ⟨j, u, hj, rfl, hr, HJ⟩ := hrel
        by_cases hja : a < j
        · have hja' : (a : Int) < (j : Int) := by omega
          obtain ⟨k, hk⟩ : ∃ k, j = k + 1 := ⟨j - 1, by omega⟩
          have w2 : IntKind.i64.wrap ((j : Int) - 1) = (k : Int) := by rw [IntKind.wrap_i64]; omega
          have hjn : j < n := by omega
          have hkn : k < n := by omega
          have HK := Lib.hid hk
          clear hk
          have e1 := hr.bk.cell j (rowsA_at hjn)
          have e2 := hr.bk.cell k (rowsA_at hkn)
          have cc := hc _ hr.drew.kp (u j) (u k) (HJ.out.1.low j hjn) (HJ.out.1.low k hkn)
          obtain ⟨r, hcr⟩ : ∃ r, c (u j) (u k) = r := ⟨_, rfl⟩
          rw [hcr] at cc
          have HR := Lib.hid hcr
          clear hcr
          go_wp2_with fail
          refine wp_region_noPanic ?_
          refine region_g 14 (Ext (World.drew _)) (by kernel_rfl) (Ext.refl _) (fun hS => ?_)
          refine take_w (i := 0) (v := ?_) (some 18) rfl (by kernel_rfl) rfl (fun _ _ _ h => h) (Or.inl ⟨by rfl, ?_⟩) hS ?_
          rotate_left
          · (intro wq hq; go_simp); first | done | with_reducible rfl
          try simp only [Act.put, List.setIfInBounds_toArray, List.set_cons_zero, List.set_cons_succ]
          replace hS := Till.list 0 hS
          refine take_w (i := 1) (v := ?_) (some 19) rfl (by kernel_rfl) rfl (fun _ _ _ h => h) (Or.inl ⟨by rfl, ?_⟩) hS ?_
          rotate_left
          · (intro wq hq; go_simp); first | done | with_reducible rfl
          try simp only [Act.put, List.setIfInBounds_toArray, List.set_cons_zero, List.set_cons_succ]
          replace hS := Till.list 1 hS
          refine take_w (i := 2) (v := ?_) (some 20) rfl (by kernel_rfl) rfl (fun _ _ _ h => h) (Or.inl ⟨by rfl, ?_⟩) hS ?_
          rotate_left
          · (intro wq hq; go_simp); first | done | with_reducible rfl
          try simp only [Act.put, List.setIfInBounds_toArray, List.set_cons_zero, List.set_cons_succ]
          replace hS := Till.list 2 hS
          refine take_w (i := 3) (v := ?_) (some 21) rfl (by kernel_rfl) rfl (fun _ _ _ h => h) (Or.inl ⟨by rfl, ?_⟩) hS ?_
          rotate_left
          · (intro wq hq; go_simp); first | done | with_reducible rfl
          try simp only [Act.put, List.setIfInBounds_toArray, List.set_cons_zero, List.set_cons_succ]
          replace hS := Till.list 3 hS
          refine take_w (i := 4) (v := ?_) (some 22) rfl (by kernel_rfl) rfl (fun _ _ _ h => h) (Or.inl ⟨by rfl, ?_⟩) hS ?_
          rotate_left
          · (intro wq hq; go_simp); first | done | with_reducible rfl
          try simp only [Act.put, List.setIfInBounds_toArray, List.set_cons_zero, List.set_cons_succ]
          replace hS := Till.list 4 hS
          refine take_w (i := 5) (v := ?_) (some 23) rfl (by kernel_rfl) rfl (fun _ _ _ h => h) (Or.inl ⟨by rfl, ?_⟩) hS ?_
          rotate_left
          · (intro wq hq; go_simp); first | done | with_reducible rfl
          try simp only [Act.put, List.setIfInBounds_toArray, List.set_cons_zero, List.set_cons_succ]
          replace hS := Till.list 5 hS
          refine take_w (i := 6) (v := ?_) (some 24) rfl (by kernel_rfl) rfl (fun _ _ _ h => h) (Or.inl ⟨by rfl, ?_⟩) hS ?_
          rotate_left
          · (intro wq hq; go_simp); first | done | with_reducible rfl
          try simp only [Act.put, List.setIfInBounds_toArray, List.set_cons_zero, List.set_cons_succ]
          replace hS := Till.list 6 hS
          refine take_w (i := 9) (v := ?_) (some 27) rfl (by kernel_rfl) rfl (fun _ _ _ h => h) (Or.inl ⟨by rfl, ?_⟩) hS ?_
          rotate_left
          · (intro wq hq; go_simp); first | done | with_reducible rfl
          try simp only [Act.put, List.setIfInBounds_toArray, List.set_cons_zero, List.set_cons_succ]
          replace hS := Till.list 9 hS
          refine take_w (i := 10) (v := ?_) (some 28) rfl (by kernel_rfl) rfl (fun _ _ _ h => h) (Or.inl ⟨by rfl, ?_⟩) hS ?_
          rotate_left
          · (intro wq hq; go_simp); first | done | with_reducible rfl
          try simp only [Act.put, List.setIfInBounds_toArray, List.set_cons_zero, List.set_cons_succ]
          replace hS := Till.list 10 hS
          refine take_w (i := 7) (v := ?_) (some 25) rfl (by kernel_rfl) rfl (fun _ _ _ h => h) (Or.inl ⟨by rfl, ?_⟩) hS ?_
          rotate_left
          · (intro wq hq; go_simp); first | done | with_reducible rfl
          try simp only [Act.put, List.setIfInBounds_toArray, List.set_cons_zero, List.set_cons_succ]
          replace hS := Till.list 7 hS
          refine take_w (i := 11) (v := ?_) (some 29) rfl (by kernel_rfl) rfl (fun _ _ _ h => h) (Or.inl ⟨by rfl, ?_⟩) hS ?_
          rotate_left
          · (intro wq hq; go_simp); first | done | with_reducible rfl
          try simp only [Act.put, List.setIfInBounds_toArray, List.set_cons_zero, List.set_cons_succ]
          replace hS := Till.list 11 hS
          refine take_g (i := 8) (v := ?_) [8] (some 26) rfl (by kernel_rfl) rfl (fun _ _ _ h => h) (Or.inl ⟨by rfl, ?_⟩) hS ?_
          rotate_left
          · (intro wq hq; have q0 := hq _ _ _ e1; have q1 := hq _ _ _ e2; go_simp); first | done | with_reducible rfl
          try simp only [Act.put, List.setIfInBounds_toArray, List.set_cons_zero, List.set_cons_succ]
          replace hS := Till.list 8 hS
          refine take_w (i := 12) (v := ?_) (some 30) rfl (by kernel_rfl) rfl (fun _ _ _ h => h) (Or.inl ⟨by rfl, ?_⟩) hS ?_
          rotate_left
          · (intro wq hq; go_simp); first | done | with_reducible rfl
          try simp only [Act.put, List.setIfInBounds_toArray, List.set_cons_zero, List.set_cons_succ]
          replace hS := Till.list 12 hS
          refine take_g (i := 13) (v := ?_) [13] (some 31) rfl (by kernel_rfl) rfl (fun _ _ _ h => h) (Or.inl ⟨by rfl, ?_⟩) hS ?_
          rotate_left
          · (intro wq hq; have q0 := hq _ _ _ e1; have q1 := hq _ _ _ e2; go_simp); first | done | with_reducible rfl
          try simp only [Act.put, List.setIfInBounds_toArray, List.set_cons_zero, List.set_cons_succ]
          replace hS := Till.list 13 hS
          refine ready_g (rs := [14]) (by kernel_rfl) (by simp) ?_
          refine AllReadyG.cons rfl (fun Kont hK => ?_) AllReadyG.nil
          go_simp
          refine cc.mono ?_
          rintro en w' ⟨rfl, hb'⟩
          refine hK.out _ _ (Or.inl (by kernel_rfl)) (fun hS0 => ?_)
          clear hK Kont
          try simp only [Act.put, List.setIfInBounds_toArray, List.set_cons_zero, List.set_cons_succ]
          clear hS
          have hS := hS0
          clear hS0
          refine take_w (i := 15) (v := ?_) (some 33) rfl (by kernel_rfl) rfl (fun _ _ _ h => h) (Or.inl ⟨by rfl, ?_⟩) hS ?_
          rotate_left
          · (intro wq hq; go_simp); first | done | with_reducible rfl
          try simp only [Act.put, List.setIfInBounds_toArray, List.set_cons_zero, List.set_cons_succ]
          replace hS := Till.list 15 hS
          refine take_w (i := 16) (v := ?_) (some 34) rfl (by kernel_rfl) rfl (fun _ _ _ h => h) (Or.inl ⟨by rfl, ?_⟩) hS ?_
          rotate_left
          · (intro wq hq; go_simp); first | done | with_reducible rfl
          try simp only [Act.put, List.setIfInBounds_toArray, List.set_cons_zero, List.set_cons_succ]
          replace hS := Till.list 16 hS
          refine done_g (by kernel_rfl) (NoPanic.normal ?_) _
          clear hS
          have h1 := hr.drew.below hb'
          clear hr e1 e2 cc hb'
          by_cases hlt : r < 0
          · have f1 := h1.bk.free j
            have e1 := h1.bk.cell j (rowsA_at hjn)
            have e2 := h1.bk.cell k (rowsA_at hkn)
            have g1 : ∃ v, (w'.setCell ⟨g, j, none⟩ (sV (e (u k)))).cell? ⟨g, k, none⟩ = some v := ⟨_, (h1.bk.set j (sV (e (u k)))).cell k (by rw [Array.getElem?_eq_getElem (by simp [rowsA_size]; exact hkn)])⟩
            obtain ⟨v1, g1⟩ := g1
            have f2 := h1.bk.free k
            have HN := (h1.swap hjn hkn).drew
            go_wp2_with fail
            refine wp_region_noPanic ?_
            refine region_g 15 (Ext (World.drew _)) (by kernel_rfl) (Ext.refl _) (fun hS => ?_)
            refine take_w (i := 0) (v := ?_) (some 37) rfl (by kernel_rfl) rfl (fun _ _ _ h => h) (Or.inl ⟨by rfl, ?_⟩) hS ?_
            rotate_left
            · (intro wq hq; go_simp); first | done | with_reducible rfl
            try simp only [Act.put, List.setIfInBounds_toArray, List.set_cons_zero, List.set_cons_succ]
            replace hS := Till.list 0 hS
            refine take_w (i := 1) (v := ?_) (some 38) rfl (by kernel_rfl) rfl (fun _ _ _ h => h) (Or.inl ⟨by rfl, ?_⟩) hS ?_
            rotate_left
            · (intro wq hq; go_simp); first | done | with_reducible rfl
            try simp only [Act.put, List.setIfInBounds_toArray, List.set_cons_zero, List.set_cons_succ]
            replace hS := Till.list 1 hS
            refine take_w (i := 2) (v := ?_) (some 39) rfl (by kernel_rfl) rfl (fun _ _ _ h => h) (Or.inl ⟨by rfl, ?_⟩) hS ?_
            rotate_left
            · (intro wq hq; go_simp); first | done | with_reducible rfl
            try simp only [Act.put, List.setIfInBounds_toArray, List.set_cons_zero, List.set_cons_succ]
            replace hS := Till.list 2 hS
            refine take_w (i := 3) (v := ?_) (some 40) rfl (by kernel_rfl) rfl (fun _ _ _ h => h) (Or.inl ⟨by rfl, ?_⟩) hS ?_
            rotate_left
            · (intro wq hq; go_simp); first | done | with_reducible rfl
            try simp only [Act.put, List.setIfInBounds_toArray, List.set_cons_zero, List.set_cons_succ]
            replace hS := Till.list 3 hS
            refine take_w (i := 5) (v := ?_) (some 42) rfl (by kernel_rfl) rfl (fun _ _ _ h => h) (Or.inl ⟨by rfl, ?_⟩) hS ?_
            rotate_left
            · (intro wq hq; go_simp); first | done | with_reducible rfl
            try simp only [Act.put, List.setIfInBounds_toArray, List.set_cons_zero, List.set_cons_succ]
            replace hS := Till.list 5 hS
            refine take_w (i := 6) (v := ?_) (some 43) rfl (by kernel_rfl) rfl (fun _ _ _ h => h) (Or.inl ⟨by rfl, ?_⟩) hS ?_
            rotate_left
            · (intro wq hq; go_simp); first | done | with_reducible rfl
            try simp only [Act.put, List.setIfInBounds_toArray, List.set_cons_zero, List.set_cons_succ]
            replace hS := Till.list 6 hS
            refine take_w (i := 10) (v := ?_) (some 47) rfl (by kernel_rfl) rfl (fun _ _ _ h => h) (Or.inl ⟨by rfl, ?_⟩) hS ?_
            rotate_left
            · (intro wq hq; go_simp); first | done | with_reducible rfl
            try simp only [Act.put, List.setIfInBounds_toArray, List.set_cons_zero, List.set_cons_succ]
            replace hS := Till.list 10 hS
            refine take_w (i := 11) (v := ?_) (some 48) rfl (by kernel_rfl) rfl (fun _ _ _ h => h) (Or.inl ⟨by rfl, ?_⟩) hS ?_
            rotate_left
            · (intro wq hq; go_simp); first | done | with_reducible rfl
            try simp only [Act.put, List.setIfInBounds_toArray, List.set_cons_zero, List.set_cons_succ]
            replace hS := Till.list 11 hS
            refine take_w (i := 4) (v := ?_) (some 41) rfl (by kernel_rfl) rfl (fun _ _ _ h => h) (Or.inl ⟨by rfl, ?_⟩) hS ?_
            rotate_left
            · (intro wq hq; go_simp); first | done | with_reducible rfl
            try simp only [Act.put, List.setIfInBounds_toArray, List.set_cons_zero, List.set_cons_succ]
            replace hS := Till.list 4 hS
            refine take_w (i := 7) (v := ?_) (some 44) rfl (by kernel_rfl) rfl (fun _ _ _ h => h) (Or.inl ⟨by rfl, ?_⟩) hS ?_
            rotate_left
            · (intro wq hq; go_simp); first | done | with_reducible rfl
            try simp only [Act.put, List.setIfInBounds_toArray, List.set_cons_zero, List.set_cons_succ]
            replace hS := Till.list 7 hS
            refine take_w (i := 12) (v := ?_) (some 49) rfl (by kernel_rfl) rfl (fun _ _ _ h => h) (Or.inl ⟨by rfl, ?_⟩) hS ?_
            rotate_left
            · (intro wq hq; go_simp); first | done | with_reducible rfl
            try simp only [Act.put, List.setIfInBounds_toArray, List.set_cons_zero, List.set_cons_succ]
            replace hS := Till.list 12 hS
            refine take_w (i := 8) (v := ?_) (some 45) rfl (by kernel_rfl) rfl (fun _ _ _ h => h) (Or.inl ⟨by rfl, ?_⟩) hS ?_
            rotate_left
            · (intro wq hq; go_simp); first | done | with_reducible rfl
            try simp only [Act.put, List.setIfInBounds_toArray, List.set_cons_zero, List.set_cons_succ]
            replace hS := Till.list 8 hS
            refine take_g (i := 13) (v := ?_) [13] (some 50) rfl (by kernel_rfl) rfl (fun _ _ _ h => h) (Or.inl ⟨by rfl, ?_⟩) hS ?_
            rotate_left
            · (intro wq hq; have q0 := hq _ _ _ e1; have q1 := hq _ _ _ e2; go_simp); first | done | with_reducible rfl
            try simp only [Act.put, List.setIfInBounds_toArray, List.set_cons_zero, List.set_cons_succ]
            replace hS := Till.list 13 hS
            refine take_g (i := 9) (v := ?_) [9] (some 46) rfl (by kernel_rfl) rfl (fun _ _ _ h => h) (Or.inl ⟨by rfl, ?_⟩) hS ?_
            rotate_left
            · (intro wq hq; have q0 := hq _ _ _ e1; have q1 := hq _ _ _ e2; go_simp); first | done | with_reducible rfl
            try simp only [Act.put, List.setIfInBounds_toArray, List.set_cons_zero, List.set_cons_succ]
            replace hS := Till.list 9 hS
            refine take_w (i := 14) (v := ?_) (some 51) rfl (by kernel_rfl) rfl (fun _ _ _ h => h) (Or.inl ⟨by rfl, ?_⟩) hS ?_
            rotate_left
            · (intro wq hq; go_simp); first | done | with_reducible rfl
            try simp only [Act.put, List.setIfInBounds_toArray, List.set_cons_zero, List.set_cons_succ]
            replace hS := Till.list 14 hS
            refine ready_g (rs := [15]) (by kernel_rfl) (by simp) ?_
            refine AllReadyG.cons rfl (fun Kont hK => ?_) AllReadyG.nil
            go_simp
            refine hK.out _ _ (Or.inl (by kernel_rfl)) (fun hS0 => ?_)
            clear hK Kont
            try simp only [Act.put, List.setIfInBounds_toArray, List.set_cons_zero, List.set_cons_succ]
            clear hS
            have hS := hS0
            clear hS0
            refine take_w (i := 16) (v := ?_) (some 52) rfl (by kernel_rfl) rfl (fun _ _ _ h => h) (Or.inl ⟨by rfl, ?_⟩) hS ?_
            rotate_left
            · (intro wq hq; go_simp); first | done | with_reducible rfl
            try simp only [Act.put, List.setIfInBounds_toArray, List.set_cons_zero, List.set_cons_succ]
            replace hS := Till.list 16 hS
            refine ready_g (rs := [17]) (by kernel_rfl) (by simp) ?_
            refine AllReadyG.cons rfl (fun Kont hK => ?_) AllReadyG.nil
            go_simp
            refine hK.out _ _ (Or.inl (by kernel_rfl)) (fun hS0 => ?_)
            clear hK Kont
            try simp only [Act.put, List.setIfInBounds_toArray, List.set_cons_zero, List.set_cons_succ]
            clear hS
            have hS := hS0
            clear hS0
            refine done_g (by kernel_rfl) (NoPanic.normal ?_) _
            clear hS
            go_wp2_with fail
            go_roundw
            case rel => exact ⟨k, _, by have := HK.out; omega, rfl, HN, by
              have hk := HK.out
              subst hk
              have q := HR.out
              refine ⟨?_, ?_, ?_⟩
              · have := HJ.out.1.swap hjn (by omega)
                refine ⟨?_, ?_, ?_⟩ <;> simp only [swP_comm (k + 1) k]
                · exact this.low
                · exact this.inj
                · exact this.st
              · exact HJ.out.2.1.trans (MvS.swap (by omega) (by omega))
              · have := HJ.out.2.2.step (by omega) (by omega)
                simp only [swP_comm (k + 1) k]
                exact this⟩
            case measure => have := HK.out; simp [intOf]; omega
          · have HI2 : Hid (StA c n u ∧ MvS a b s u ∧ InS c u a (i + 1)) := ⟨HJ.out.1, HJ.out.2.1, HJ.out.2.2.stop ho (.inr ⟨k, HK.out, by rw [HR.out]; omega⟩)⟩
            have w3 : IntKind.i64.wrap ((i : Int) + 1) = ((i + 1 : Nat) : Int) := by rw [IntKind.wrap_i64]; omega
            go_wp2_with fail
            go_roundw
            case rel => exact ⟨i + 1, u, by omega, by go_num, h1, HI2⟩
            case measure => simp [intOf]; omega
        · have hja' : ¬ (a : Int) < (j : Int) := by omega
          go_wp2_with fail
          refine wp_region_noPanic ?_
          refine region_g 17 (Ext (World.drew _)) (by kernel_rfl) (Ext.refl _) (fun hS => ?_)
          refine take_w (i := 0) (v := ?_) (some 18) rfl (by kernel_rfl) rfl (fun _ _ _ h => h) (Or.inl ⟨by rfl, ?_⟩) hS ?_
          rotate_left
          · (intro wq hq; go_simp); first | done | with_reducible rfl
          try simp only [Act.put, List.setIfInBounds_toArray, List.set_cons_zero, List.set_cons_succ]
          replace hS := Till.list 0 hS
          refine take_w (i := 1) (v := ?_) (some 19) rfl (by kernel_rfl) rfl (fun _ _ _ h => h) (Or.inl ⟨by rfl, ?_⟩) hS ?_
          rotate_left
          · (intro wq hq; go_simp); first | done | with_reducible rfl
          try simp only [Act.put, List.setIfInBounds_toArray, List.set_cons_zero, List.set_cons_succ]
          replace hS := Till.list 1 hS
          refine take_w (i := 2) (v := ?_) (some 20) rfl (by kernel_rfl) rfl (fun _ _ _ h => h) (Or.inl ⟨by rfl, ?_⟩) hS ?_
          rotate_left
          · (intro wq hq; go_simp); first | done | with_reducible rfl
          try simp only [Act.put, List.setIfInBounds_toArray, List.set_cons_zero, List.set_cons_succ]
          replace hS := Till.list 2 hS
          refine take_w (i := 3) (v := ?_) (some 21) rfl (by kernel_rfl) rfl (fun _ _ _ h => h) (Or.inl ⟨by rfl, ?_⟩) hS ?_
          rotate_left
          · (intro wq hq; go_simp); first | done | with_reducible rfl
          try simp only [Act.put, List.setIfInBounds_toArray, List.set_cons_zero, List.set_cons_succ]
          replace hS := Till.list 3 hS
          refine take_w (i := 4) (v := undef) (some 22) rfl (by kernel_rfl) rfl (fun _ _ _ h => h) (Or.inr ⟨by rfl, rfl⟩) hS ?_
          try simp only [Act.put, List.setIfInBounds_toArray, List.set_cons_zero, List.set_cons_succ]
          replace hS := Till.list 4 hS
          refine take_w (i := 5) (v := undef) (some 23) rfl (by kernel_rfl) rfl (fun _ _ _ h => h) (Or.inr ⟨by rfl, rfl⟩) hS ?_
          try simp only [Act.put, List.setIfInBounds_toArray, List.set_cons_zero, List.set_cons_succ]
          replace hS := Till.list 5 hS
          refine take_w (i := 6) (v := undef) (some 24) rfl (by kernel_rfl) rfl (fun _ _ _ h => h) (Or.inr ⟨by rfl, rfl⟩) hS ?_
          try simp only [Act.put, List.setIfInBounds_toArray, List.set_cons_zero, List.set_cons_succ]
          replace hS := Till.list 6 hS
          refine take_w (i := 9) (v := undef) (some 27) rfl (by kernel_rfl) rfl (fun _ _ _ h => h) (Or.inr ⟨by rfl, rfl⟩) hS ?_
          try simp only [Act.put, List.setIfInBounds_toArray, List.set_cons_zero, List.set_cons_succ]
          replace hS := Till.list 9 hS
          refine take_w (i := 10) (v := undef) (some 28) rfl (by kernel_rfl) rfl (fun _ _ _ h => h) (Or.inr ⟨by rfl, rfl⟩) hS ?_
          try simp only [Act.put, List.setIfInBounds_toArray, List.set_cons_zero, List.set_cons_succ]
          replace hS := Till.list 10 hS
          refine take_w (i := 7) (v := undef) (some 25) rfl (by kernel_rfl) rfl (fun _ _ _ h => h) (Or.inr ⟨by rfl, rfl⟩) hS ?_
          try simp only [Act.put, List.setIfInBounds_toArray, List.set_cons_zero, List.set_cons_succ]
          replace hS := Till.list 7 hS
          refine take_w (i := 11) (v := undef) (some 29) rfl (by kernel_rfl) rfl (fun _ _ _ h => h) (Or.inr ⟨by rfl, rfl⟩) hS ?_
          try simp only [Act.put, List.setIfInBounds_toArray, List.set_cons_zero, List.set_cons_succ]
          replace hS := Till.list 11 hS
          refine take_w (i := 8) (v := undef) (some 26) rfl (by kernel_rfl) rfl (fun _ _ _ h => h) (Or.inr ⟨by rfl, rfl⟩) hS ?_
          try simp only [Act.put, List.setIfInBounds_toArray, List.set_cons_zero, List.set_cons_succ]
          replace hS := Till.list 8 hS
          refine take_w (i := 12) (v := undef) (some 30) rfl (by kernel_rfl) rfl (fun _ _ _ h => h) (Or.inr ⟨by rfl, rfl⟩) hS ?_
          try simp only [Act.put, List.setIfInBounds_toArray, List.set_cons_zero, List.set_cons_succ]
          replace hS := Till.list 12 hS
          refine take_w (i := 13) (v := undef) (some 31) rfl (by kernel_rfl) rfl (fun _ _ _ h => h) (Or.inr ⟨by rfl, rfl⟩) hS ?_
          try simp only [Act.put, List.setIfInBounds_toArray, List.set_cons_zero, List.set_cons_succ]
          replace hS := Till.list 13 hS
          refine take_w (i := 14) (v := undef) (some 32) rfl (by kernel_rfl) rfl (fun _ _ _ h => h) (Or.inr ⟨by rfl, rfl⟩) hS ?_
          try simp only [Act.put, List.setIfInBounds_toArray, List.set_cons_zero, List.set_cons_succ]
          replace hS := Till.list 14 hS
          refine take_w (i := 15) (v := undef) (some 33) rfl (by kernel_rfl) rfl (fun _ _ _ h => h) (Or.inr ⟨by rfl, rfl⟩) hS ?_
          try simp only [Act.put, List.setIfInBounds_toArray, List.set_cons_zero, List.set_cons_succ]
          replace hS := Till.list 15 hS
          refine take_w (i := 16) (v := ?_) (some 34) rfl (by kernel_rfl) rfl (fun _ _ _ h => h) (Or.inl ⟨by rfl, ?_⟩) hS ?_
          rotate_left
          · (intro wq hq; go_simp); first | done | with_reducible rfl
          try simp only [Act.put, List.setIfInBounds_toArray, List.set_cons_zero, List.set_cons_succ]
          replace hS := Till.list 16 hS
          refine done_g (by kernel_rfl) (NoPanic.normal ?_) _
          clear hS
          have HI2 : Hid (StA c n u ∧ MvS a b s u ∧ InS c u a (i + 1)) := ⟨HJ.out.1, HJ.out.2.1, HJ.out.2.2.stop ho (.inl (by omega))⟩
          have h1 := hr.drew
          clear hr
          have w3 : IntKind.i64.wrap ((i : Int) + 1) = ((i + 1 : Nat) : Int) := by rw [IntKind.wrap_i64]; omega
          go_wp2_with fail
          go_roundw
          case rel => exact ⟨i + 1, u, by omega, by go_num, h1, HI2⟩
          case measure => simp [intOf]; omega
    · have hib' : ¬ (i : Int) < (b : Int) := by omega
      go_wp2_with fail
      (try simp only [Exit.inBlock, Exit.then])
      refine Great.bodyPost_end0 rfl rfl ?_
      exact ⟨rfl, t, ⟨HI.out.1, HI.out.2.1, HI.out.2.2.mono (Nat.le_refl _) (by omega)⟩, hr⟩
end Go.Proofs.Ytloohkgiicgndaa
/- Rows that are put in order in place, in memory: two halves that are in order are merged. -/
namespace Go.Proofs.Ytloohkgiicgndaa
open Go.ChangeShapes Go.WideShapes Go.ChangeAt Go.RowKit
set_option linter.unusedVariables false
set_option maxRecDepth 4000

/-- what a merge of at most so many rows does -/
def SymC (w0 : World) (g n : Nat) (e : Nat → Rw) (fp : Value) (c : Nat → Nat → Int) (d : Nat) : Prop :=
  ∀ (a m b : Nat) (s : Nat → Nat) (w : World), b - a ≤ d → a < m → m < b → b ≤ n → StA c n s → InS c s a m → InS c s m b → SW w0 g n e s w →
    Calls Try.prog 39 #[Gs g n, .int .i64 (a : Int), .int .i64 (m : Int), .int .i64 (b : Int), FV fp] w fun en w' => en = .returned (.tuple #[]) ∧ ∃ t, SymS c n s t a b ∧ SW w0 g n e t w'
set_option maxHeartbeats 2000000 in
theorem sym_left_any (w0 : World) (g n : Nat) (e : Nat → Rw) (fp : Value) (c : Nat → Nat → Int) (hc : CmpG w0 g n e fp c) (ho : OrdN c) (hn : n ≤ maxN) (a b : Nat) (hb : b ≤ n) (hab : a + 1 < b) (s : Nat → Nat) (hs : StA c n s) (h2 : InS c s (a + 1) b) (w : World) (hw : SW w0 g n e s w) :
    Calls Try.prog 39 #[Gs g n, .int .i64 (a : Int), .int .i64 ((a + 1 : Nat) : Int), .int .i64 (b : Int), FV fp] w fun en w' => en = .returned (.tuple #[]) ∧ ∃ t, SymS c n s t a b ∧ SW w0 g n e t w' := by
  have hn' := hn
  unfold maxN at hn'
  obtain ⟨m, hm⟩ : ∃ m, a + 1 = m := ⟨_, rfl⟩
  rw [hm]
  have w1 : IntKind.i64.wrap ((m : Int) - (a : Int)) = 1 := by rw [IntKind.wrap_i64]; omega
  have HM := Lib.hid hm
  have hmb : m < b ∧ a < m := by omega
  have HMo : Hid (MonP (fun x => 0 ≤ c (s x) (s a)) m b) := mon_left ho (by rw [← hm]; exact h2)
  have H2 := Lib.hid h2
  have HSt := Lib.hid hs
  have han : a < n := by omega
  have hlow := hs.low
  clear hm h2 hs
  go_enter Try.func39, Try.ntmps39
  go_wp2_with fail
  clear w1
  go_loopw [10, 11] (fun vi vj wr => ∃ (i j : Nat), vi = .int .i64 (i : Int) ∧ vj = .int .i64 (j : Int) ∧ (m ≤ i ∧ i ≤ j ∧ j ≤ b) ∧ SW w0 g n e s wr ∧ Hid (SchP (fun x => 0 ≤ c (s x) (s a)) m b i j)) (fun vi vj _ => (intOf vj).toNat - (intOf vi).toNat)
  case atStart => exact ⟨m, b, rfl, rfl, by omega, hw, SchP.start (by omega)⟩
  case round =>
    clear hw
    obtain ⟨i, j, rfl, rfl, hij, hr, HJ⟩ := hrel
    by_cases hlt : i < j
    · have hlt' : (i : Int) < (j : Int) := by omega
      obtain ⟨h, hh⟩ : ∃ h : Nat, (i + j) / 2 = h := ⟨_, rfl⟩
      have w1 : ((i : Int) + (j : Int)) / 2 = (h : Int) := by omega
      have hih := half_of hh hlt
      clear hh
      have hhn : h < n := by omega
      have e1 := hr.bk.cell h (rowsA_at hhn)
      have e2 := hr.bk.cell a (rowsA_at han)
      have cc := hc _ hr.drew.kp (s h) (s a) (hlow h hhn) (hlow a han)
      obtain ⟨r, hcr⟩ : ∃ r, c (s h) (s a) = r := ⟨_, rfl⟩
      rw [hcr] at cc
      have HR := Lib.hid hcr
      clear hcr
      go_wp2_with fail
      refine wp_region_noPanic ?_
      refine region_g 9 (Ext (World.drew _)) (by kernel_rfl) (Ext.refl _) (fun hS => ?_)
      refine take_w (i := 0) (v := ?_) (some 40) rfl (by kernel_rfl) rfl (fun _ _ _ h => h) (Or.inl ⟨by rfl, ?_⟩) hS ?_
      rotate_left
      · (intro wq hq; go_simp); first | done | with_reducible rfl
      try simp only [Act.put, List.setIfInBounds_toArray, List.set_cons_zero, List.set_cons_succ]
      replace hS := Till.list 0 hS
      refine take_w (i := 1) (v := ?_) (some 41) rfl (by kernel_rfl) rfl (fun _ _ _ h => h) (Or.inl ⟨by rfl, ?_⟩) hS ?_
      rotate_left
      · (intro wq hq; go_simp); first | done | with_reducible rfl
      try simp only [Act.put, List.setIfInBounds_toArray, List.set_cons_zero, List.set_cons_succ]
      replace hS := Till.list 1 hS
      refine take_w (i := 2) (v := ?_) (some 42) rfl (by kernel_rfl) rfl (fun _ _ _ h => h) (Or.inl ⟨by rfl, ?_⟩) hS ?_
      rotate_left
      · (intro wq hq; go_simp); first | done | with_reducible rfl
      try simp only [Act.put, List.setIfInBounds_toArray, List.set_cons_zero, List.set_cons_succ]
      replace hS := Till.list 2 hS
      refine take_w (i := 5) (v := ?_) (some 45) rfl (by kernel_rfl) rfl (fun _ _ _ h => h) (Or.inl ⟨by rfl, ?_⟩) hS ?_
      rotate_left
      · (intro wq hq; go_simp); first | done | with_reducible rfl
      try simp only [Act.put, List.setIfInBounds_toArray, List.set_cons_zero, List.set_cons_succ]
      replace hS := Till.list 5 hS
      refine take_w (i := 6) (v := ?_) (some 46) rfl (by kernel_rfl) rfl (fun _ _ _ h => h) (Or.inl ⟨by rfl, ?_⟩) hS ?_
      rotate_left
      · (intro wq hq; go_simp); first | done | with_reducible rfl
      try simp only [Act.put, List.setIfInBounds_toArray, List.set_cons_zero, List.set_cons_succ]
      replace hS := Till.list 6 hS
      refine take_w (i := 3) (v := ?_) (some 43) rfl (by kernel_rfl) rfl (fun _ _ _ h => h) (Or.inl ⟨by rfl, ?_⟩) hS ?_
      rotate_left
      · (intro wq hq; go_simp); first | done | with_reducible rfl
      try simp only [Act.put, List.setIfInBounds_toArray, List.set_cons_zero, List.set_cons_succ]
      replace hS := Till.list 3 hS
      refine take_w (i := 7) (v := ?_) (some 47) rfl (by kernel_rfl) rfl (fun _ _ _ h => h) (Or.inl ⟨by rfl, ?_⟩) hS ?_
      rotate_left
      · (intro wq hq; go_simp); first | done | with_reducible rfl
      try simp only [Act.put, List.setIfInBounds_toArray, List.set_cons_zero, List.set_cons_succ]
      replace hS := Till.list 7 hS
      refine take_g (i := 4) (v := ?_) [4] (some 44) rfl (by kernel_rfl) rfl (fun _ _ _ h => h) (Or.inl ⟨by rfl, ?_⟩) hS ?_
      rotate_left
      · (intro wq hq; have q0 := hq _ _ _ e1; have q1 := hq _ _ _ e2; go_simp); first | done | with_reducible rfl
      try simp only [Act.put, List.setIfInBounds_toArray, List.set_cons_zero, List.set_cons_succ]
      replace hS := Till.list 4 hS
      refine take_g (i := 8) (v := ?_) [8] (some 48) rfl (by kernel_rfl) rfl (fun _ _ _ h => h) (Or.inl ⟨by rfl, ?_⟩) hS ?_
      rotate_left
      · (intro wq hq; have q0 := hq _ _ _ e1; have q1 := hq _ _ _ e2; go_simp); first | done | with_reducible rfl
      try simp only [Act.put, List.setIfInBounds_toArray, List.set_cons_zero, List.set_cons_succ]
      replace hS := Till.list 8 hS
      refine ready_g (rs := [9]) (by kernel_rfl) (by simp) ?_
      refine AllReadyG.cons rfl (fun Kont hK => ?_) AllReadyG.nil
      go_simp
      refine cc.mono ?_
      rintro en w' ⟨rfl, hb'⟩
      refine hK.out _ _ (Or.inl (by kernel_rfl)) (fun hS0 => ?_)
      clear hK Kont
      try simp only [Act.put, List.setIfInBounds_toArray, List.set_cons_zero, List.set_cons_succ]
      clear hS
      have hS := hS0
      clear hS0
      refine take_w (i := 10) (v := ?_) (some 50) rfl (by kernel_rfl) rfl (fun _ _ _ h => h) (Or.inl ⟨by rfl, ?_⟩) hS ?_
      rotate_left
      · (intro wq hq; go_simp); first | done | with_reducible rfl
      try simp only [Act.put, List.setIfInBounds_toArray, List.set_cons_zero, List.set_cons_succ]
      replace hS := Till.list 10 hS
      refine done_g (by kernel_rfl) (NoPanic.normal ?_) _
      clear hS
      have h1 := hr.drew.below hb'
      clear hr e1 e2 cc hb' w1
      by_cases hr0 : r < 0
      · have HJ2 := Lib.hid (HJ.out.up HMo.out hih.1 hih.2 (by rw [HR.out]; omega))
        have w3 : IntKind.i64.wrap ((h : Int) + 1) = ((h + 1 : Nat) : Int) := by rw [IntKind.wrap_i64]; omega
        go_wp2_with fail
        go_roundw
        case rel => exact ⟨h + 1, j, by go_num, rfl, by omega, h1, HJ2⟩
        case measure => simp [intOf]; omega
      · have HJ2 := Lib.hid (HJ.out.down HMo.out hih.1 hih.2 (by rw [HR.out]; omega))
        go_wp2_with fail
        go_roundw
        case rel => exact ⟨i, h, rfl, rfl, by omega, h1, HJ2⟩
        case measure => simp [intOf]; omega
    · have hlt' : ¬ (i : Int) < (j : Int) := by omega
      obtain rfl : i = j := by omega
      obtain ⟨p, hp⟩ : ∃ p, i - 1 = p := ⟨_, rfl⟩
      have w1 : IntKind.i64.wrap ((i : Int) - 1) = (p : Int) := by rw [IntKind.wrap_i64]; omega
      have hp' : a ≤ p ∧ p + 1 = i := by have := HM.out; omega
      have HP := Lib.hid hp'
      have hap : a ≤ p := hp'.1
      have hpn : p < n := by omega
      clear hp hp'
      have hs0 : SW w0 g n e (fun x => s (roP a (a + 1) (a + 1) x)) wr := hr.same (fun x _ => by rw [roP_nil'])
      clear hr
      go_wp2_with fail
      go_loopw [13] (fun vk wx => ∃ (k : Nat), vk = .int .i64 (k : Int) ∧ (a ≤ k ∧ k ≤ p) ∧ SW w0 g n e (fun x => s (roP a (a + 1) (k + 1) x)) wx) (fun vk _ => p - (intOf vk).toNat)
      case atStart => exact ⟨a, rfl, by omega, hs0⟩
      case round =>
        clear hs0
        obtain ⟨k, rfl, hk, hr⟩ := hrel
        by_cases hkp : k < p
        · have hkp' : (k : Int) < (p : Int) := by omega
          obtain ⟨k1, hk1⟩ : ∃ k1, k + 1 = k1 := ⟨_, rfl⟩
          have w2 : IntKind.i64.wrap ((k : Int) + 1) = (k1 : Int) := by rw [IntKind.wrap_i64]; omega
          have hkn : k < n := by omega
          have hkn1 : k1 < n := by omega
          have HK := Lib.hid hk1
          have HQ : Hid (∀ x, s (roP a (a + 1) (k + 1) (swP k k1 x)) = s (roP a (a + 1) (k1 + 1) x)) := fun x => by rw [← hk1, roP_up hk.1]
          rw [hk1] at hr HQ
          clear hk1
          have e1 := hr.bk.cell k (rowsA_at hkn)
          have e2 := hr.bk.cell k1 (rowsA_at hkn1)
          have f1 := hr.bk.free k
          have g1 : ∃ v, (wr.setCell ⟨g, k, none⟩ (sV (e (s (roP a (a + 1) k1 k1))))).cell? ⟨g, k1, none⟩ = some v := ⟨_, (hr.bk.set k _).cell k1 (by rw [Array.getElem?_eq_getElem (by simp [rowsA_size]; exact hkn1)])⟩
          obtain ⟨v1, g1⟩ := g1
          have f2 := hr.bk.free k1
          have HN := (hr.swap hkn hkn1).drew
          go_wp2_with fail
          refine wp_region_noPanic ?_
          refine region_g 15 (Ext (World.drew _)) (by kernel_rfl) (Ext.refl _) (fun hS => ?_)
          refine take_w (i := 0) (v := ?_) (some 61) rfl (by kernel_rfl) rfl (fun _ _ _ h => h) (Or.inl ⟨by rfl, ?_⟩) hS ?_
          rotate_left
          · (intro wq hq; go_simp); first | done | with_reducible rfl
          try simp only [Act.put, List.setIfInBounds_toArray, List.set_cons_zero, List.set_cons_succ]
          replace hS := Till.list 0 hS
          refine take_w (i := 1) (v := ?_) (some 62) rfl (by kernel_rfl) rfl (fun _ _ _ h => h) (Or.inl ⟨by rfl, ?_⟩) hS ?_
          rotate_left
          · (intro wq hq; go_simp); first | done | with_reducible rfl
          try simp only [Act.put, List.setIfInBounds_toArray, List.set_cons_zero, List.set_cons_succ]
          replace hS := Till.list 1 hS
          refine take_w (i := 2) (v := ?_) (some 63) rfl (by kernel_rfl) rfl (fun _ _ _ h => h) (Or.inl ⟨by rfl, ?_⟩) hS ?_
          rotate_left
          · (intro wq hq; go_simp); first | done | with_reducible rfl
          try simp only [Act.put, List.setIfInBounds_toArray, List.set_cons_zero, List.set_cons_succ]
          replace hS := Till.list 2 hS
          refine take_w (i := 3) (v := ?_) (some 64) rfl (by kernel_rfl) rfl (fun _ _ _ h => h) (Or.inl ⟨by rfl, ?_⟩) hS ?_
          rotate_left
          · (intro wq hq; go_simp); first | done | with_reducible rfl
          try simp only [Act.put, List.setIfInBounds_toArray, List.set_cons_zero, List.set_cons_succ]
          replace hS := Till.list 3 hS
          refine take_w (i := 5) (v := ?_) (some 66) rfl (by kernel_rfl) rfl (fun _ _ _ h => h) (Or.inl ⟨by rfl, ?_⟩) hS ?_
          rotate_left
          · (intro wq hq; go_simp); first | done | with_reducible rfl
          try simp only [Act.put, List.setIfInBounds_toArray, List.set_cons_zero, List.set_cons_succ]
          replace hS := Till.list 5 hS
          refine take_w (i := 6) (v := ?_) (some 67) rfl (by kernel_rfl) rfl (fun _ _ _ h => h) (Or.inl ⟨by rfl, ?_⟩) hS ?_
          rotate_left
          · (intro wq hq; go_simp); first | done | with_reducible rfl
          try simp only [Act.put, List.setIfInBounds_toArray, List.set_cons_zero, List.set_cons_succ]
          replace hS := Till.list 6 hS
          refine take_w (i := 10) (v := ?_) (some 71) rfl (by kernel_rfl) rfl (fun _ _ _ h => h) (Or.inl ⟨by rfl, ?_⟩) hS ?_
          rotate_left
          · (intro wq hq; go_simp); first | done | with_reducible rfl
          try simp only [Act.put, List.setIfInBounds_toArray, List.set_cons_zero, List.set_cons_succ]
          replace hS := Till.list 10 hS
          refine take_w (i := 11) (v := ?_) (some 72) rfl (by kernel_rfl) rfl (fun _ _ _ h => h) (Or.inl ⟨by rfl, ?_⟩) hS ?_
          rotate_left
          · (intro wq hq; go_simp); first | done | with_reducible rfl
          try simp only [Act.put, List.setIfInBounds_toArray, List.set_cons_zero, List.set_cons_succ]
          replace hS := Till.list 11 hS
          refine take_w (i := 4) (v := ?_) (some 65) rfl (by kernel_rfl) rfl (fun _ _ _ h => h) (Or.inl ⟨by rfl, ?_⟩) hS ?_
          rotate_left
          · (intro wq hq; go_simp); first | done | with_reducible rfl
          try simp only [Act.put, List.setIfInBounds_toArray, List.set_cons_zero, List.set_cons_succ]
          replace hS := Till.list 4 hS
          refine take_w (i := 7) (v := ?_) (some 68) rfl (by kernel_rfl) rfl (fun _ _ _ h => h) (Or.inl ⟨by rfl, ?_⟩) hS ?_
          rotate_left
          · (intro wq hq; go_simp); first | done | with_reducible rfl
          try simp only [Act.put, List.setIfInBounds_toArray, List.set_cons_zero, List.set_cons_succ]
          replace hS := Till.list 7 hS
          refine take_w (i := 12) (v := ?_) (some 73) rfl (by kernel_rfl) rfl (fun _ _ _ h => h) (Or.inl ⟨by rfl, ?_⟩) hS ?_
          rotate_left
          · (intro wq hq; go_simp); first | done | with_reducible rfl
          try simp only [Act.put, List.setIfInBounds_toArray, List.set_cons_zero, List.set_cons_succ]
          replace hS := Till.list 12 hS
          refine take_w (i := 8) (v := ?_) (some 69) rfl (by kernel_rfl) rfl (fun _ _ _ h => h) (Or.inl ⟨by rfl, ?_⟩) hS ?_
          rotate_left
          · (intro wq hq; go_simp); first | done | with_reducible rfl
          try simp only [Act.put, List.setIfInBounds_toArray, List.set_cons_zero, List.set_cons_succ]
          replace hS := Till.list 8 hS
          refine take_g (i := 13) (v := ?_) [13] (some 74) rfl (by kernel_rfl) rfl (fun _ _ _ h => h) (Or.inl ⟨by rfl, ?_⟩) hS ?_
          rotate_left
          · (intro wq hq; have q0 := hq _ _ _ e1; have q1 := hq _ _ _ e2; go_simp); first | done | with_reducible rfl
          try simp only [Act.put, List.setIfInBounds_toArray, List.set_cons_zero, List.set_cons_succ]
          replace hS := Till.list 13 hS
          refine take_g (i := 9) (v := ?_) [9] (some 70) rfl (by kernel_rfl) rfl (fun _ _ _ h => h) (Or.inl ⟨by rfl, ?_⟩) hS ?_
          rotate_left
          · (intro wq hq; have q0 := hq _ _ _ e1; have q1 := hq _ _ _ e2; go_simp); first | done | with_reducible rfl
          try simp only [Act.put, List.setIfInBounds_toArray, List.set_cons_zero, List.set_cons_succ]
          replace hS := Till.list 9 hS
          refine take_w (i := 14) (v := ?_) (some 75) rfl (by kernel_rfl) rfl (fun _ _ _ h => h) (Or.inl ⟨by rfl, ?_⟩) hS ?_
          rotate_left
          · (intro wq hq; go_simp); first | done | with_reducible rfl
          try simp only [Act.put, List.setIfInBounds_toArray, List.set_cons_zero, List.set_cons_succ]
          replace hS := Till.list 14 hS
          refine ready_g (rs := [15]) (by kernel_rfl) (by simp) ?_
          refine AllReadyG.cons rfl (fun Kont hK => ?_) AllReadyG.nil
          go_simp
          refine hK.out _ _ (Or.inl (by kernel_rfl)) (fun hS0 => ?_)
          clear hK Kont
          try simp only [Act.put, List.setIfInBounds_toArray, List.set_cons_zero, List.set_cons_succ]
          clear hS
          have hS := hS0
          clear hS0
          refine take_w (i := 16) (v := ?_) (some 76) rfl (by kernel_rfl) rfl (fun _ _ _ h => h) (Or.inl ⟨by rfl, ?_⟩) hS ?_
          rotate_left
          · (intro wq hq; go_simp); first | done | with_reducible rfl
          try simp only [Act.put, List.setIfInBounds_toArray, List.set_cons_zero, List.set_cons_succ]
          replace hS := Till.list 16 hS
          refine ready_g (rs := [17]) (by kernel_rfl) (by simp) ?_
          refine AllReadyG.cons rfl (fun Kont hK => ?_) AllReadyG.nil
          go_simp
          refine hK.out _ _ (Or.inl (by kernel_rfl)) (fun hS0 => ?_)
          clear hK Kont
          try simp only [Act.put, List.setIfInBounds_toArray, List.set_cons_zero, List.set_cons_succ]
          clear hS
          have hS := hS0
          clear hS0
          refine done_g (by kernel_rfl) (NoPanic.normal ?_) _
          clear hS
          go_wp2_with fail
          go_roundw
          case rel => exact ⟨k1, rfl, by have := HK.out; omega, HN.same (fun z _ => by rw [← HQ.out])⟩
          case measure => have := HK.out; simp [intOf]; omega
        · have hkp' : ¬ (k : Int) < (p : Int) := by omega
          obtain rfl : k = p := by omega
          go_wp2_with fail
          (try simp only [Exit.inBlock, Exit.then])
          refine bodyPost_ret (results_none rfl _ _ _) rfl ?_
          refine ⟨rfl, _, ?_, hr⟩
          have q := HP.out
          have qm := HM.out
          have hJ := HJ.out
          rw [← qm] at hJ
          rw [q.2]
          exact sym_left ho HSt.out hb (by omega) (by omega) H2.out (fun x k1 k2 => by have := hJ.no x k1 k2; omega) (fun x k1 k2 => hJ.yes x k1 k2)
set_option maxHeartbeats 2000000 in
theorem sym_right_any (w0 : World) (g n : Nat) (e : Nat → Rw) (fp : Value) (c : Nat → Nat → Int) (hc : CmpG w0 g n e fp c) (ho : OrdN c) (hn : n ≤ maxN) (a m : Nat) (hb : m + 1 ≤ n) (hab : a < m) (hne : m - a ≠ 1) (s : Nat → Nat) (hs : StA c n s) (h2 : InS c s a m) (w : World) (hw : SW w0 g n e s w) :
    Calls Try.prog 39 #[Gs g n, .int .i64 (a : Int), .int .i64 (m : Int), .int .i64 ((m + 1 : Nat) : Int), FV fp] w fun en w' => en = .returned (.tuple #[]) ∧ ∃ t, SymS c n s t a (m + 1) ∧ SW w0 g n e t w' := by
  have hn' := hn
  unfold maxN at hn'
  obtain ⟨b, hbm⟩ : ∃ b, m + 1 = b := ⟨_, rfl⟩
  rw [hbm]
  obtain ⟨v, hv⟩ : ∃ v, m - a = v := ⟨_, rfl⟩
  have w1 : IntKind.i64.wrap ((m : Int) - (a : Int)) = (v : Int) := by rw [IntKind.wrap_i64]; omega
  have hv1 : ((v : Int) == 1) = false := by rw [beq_eq_false_iff_ne]; omega
  have w2 : IntKind.i64.wrap ((b : Int) - (m : Int)) = 1 := by rw [IntKind.wrap_i64]; omega
  have HM := Lib.hid hbm
  have HMo : Hid (MonP (fun x => c (s m) (s x) < 0) a m) := mon_right ho h2
  have H2 := Lib.hid h2
  have HSt := Lib.hid hs
  have hmn : m < n := by omega
  have hlow := hs.low
  clear hbm h2 hs hv hne
  go_enter Try.func39, Try.ntmps39
  go_wp2_with fail
  clear w1 w2 hv1
  go_loopw [14, 15] (fun vi vj wr => ∃ (i j : Nat), vi = .int .i64 (i : Int) ∧ vj = .int .i64 (j : Int) ∧ (a ≤ i ∧ i ≤ j ∧ j ≤ m) ∧ SW w0 g n e s wr ∧ Hid (SchP (fun x => c (s m) (s x) < 0) a m i j)) (fun vi vj _ => (intOf vj).toNat - (intOf vi).toNat)
  case atStart => exact ⟨a, m, rfl, rfl, by omega, hw, SchP.start (by omega)⟩
  case round =>
    clear hw
    obtain ⟨i, j, rfl, rfl, hij, hr, HJ⟩ := hrel
    by_cases hlt : i < j
    · have hlt' : (i : Int) < (j : Int) := by omega
      obtain ⟨h, hh⟩ : ∃ h : Nat, (i + j) / 2 = h := ⟨_, rfl⟩
      have w1 : ((i : Int) + (j : Int)) / 2 = (h : Int) := by omega
      have hih := half_of hh hlt
      clear hh
      have hhn : h < n := by omega
      have e1 := hr.bk.cell m (rowsA_at hmn)
      have e2 := hr.bk.cell h (rowsA_at hhn)
      have cc := hc _ hr.drew.kp (s m) (s h) (hlow m hmn) (hlow h hhn)
      obtain ⟨r, hcr⟩ : ∃ r, c (s m) (s h) = r := ⟨_, rfl⟩
      rw [hcr] at cc
      have HR := Lib.hid hcr
      clear hcr
      go_wp2_with fail
      refine wp_region_noPanic ?_
      refine region_g 9 (Ext (World.drew _)) (by kernel_rfl) (Ext.refl _) (fun hS => ?_)
      refine take_w (i := 0) (v := ?_) (some 92) rfl (by kernel_rfl) rfl (fun _ _ _ h => h) (Or.inl ⟨by rfl, ?_⟩) hS ?_
      rotate_left
      · (intro wq hq; go_simp); first | done | with_reducible rfl
      try simp only [Act.put, List.setIfInBounds_toArray, List.set_cons_zero, List.set_cons_succ]
      replace hS := Till.list 0 hS
      refine take_w (i := 1) (v := ?_) (some 93) rfl (by kernel_rfl) rfl (fun _ _ _ h => h) (Or.inl ⟨by rfl, ?_⟩) hS ?_
      rotate_left
      · (intro wq hq; go_simp); first | done | with_reducible rfl
      try simp only [Act.put, List.setIfInBounds_toArray, List.set_cons_zero, List.set_cons_succ]
      replace hS := Till.list 1 hS
      refine take_w (i := 2) (v := ?_) (some 94) rfl (by kernel_rfl) rfl (fun _ _ _ h => h) (Or.inl ⟨by rfl, ?_⟩) hS ?_
      rotate_left
      · (intro wq hq; go_simp); first | done | with_reducible rfl
      try simp only [Act.put, List.setIfInBounds_toArray, List.set_cons_zero, List.set_cons_succ]
      replace hS := Till.list 2 hS
      refine take_w (i := 5) (v := ?_) (some 97) rfl (by kernel_rfl) rfl (fun _ _ _ h => h) (Or.inl ⟨by rfl, ?_⟩) hS ?_
      rotate_left
      · (intro wq hq; go_simp); first | done | with_reducible rfl
      try simp only [Act.put, List.setIfInBounds_toArray, List.set_cons_zero, List.set_cons_succ]
      replace hS := Till.list 5 hS
      refine take_w (i := 6) (v := ?_) (some 98) rfl (by kernel_rfl) rfl (fun _ _ _ h => h) (Or.inl ⟨by rfl, ?_⟩) hS ?_
      rotate_left
      · (intro wq hq; go_simp); first | done | with_reducible rfl
      try simp only [Act.put, List.setIfInBounds_toArray, List.set_cons_zero, List.set_cons_succ]
      replace hS := Till.list 6 hS
      refine take_w (i := 3) (v := ?_) (some 95) rfl (by kernel_rfl) rfl (fun _ _ _ h => h) (Or.inl ⟨by rfl, ?_⟩) hS ?_
      rotate_left
      · (intro wq hq; go_simp); first | done | with_reducible rfl
      try simp only [Act.put, List.setIfInBounds_toArray, List.set_cons_zero, List.set_cons_succ]
      replace hS := Till.list 3 hS
      refine take_w (i := 7) (v := ?_) (some 99) rfl (by kernel_rfl) rfl (fun _ _ _ h => h) (Or.inl ⟨by rfl, ?_⟩) hS ?_
      rotate_left
      · (intro wq hq; go_simp); first | done | with_reducible rfl
      try simp only [Act.put, List.setIfInBounds_toArray, List.set_cons_zero, List.set_cons_succ]
      replace hS := Till.list 7 hS
      refine take_g (i := 4) (v := ?_) [4] (some 96) rfl (by kernel_rfl) rfl (fun _ _ _ h => h) (Or.inl ⟨by rfl, ?_⟩) hS ?_
      rotate_left
      · (intro wq hq; have q0 := hq _ _ _ e1; have q1 := hq _ _ _ e2; go_simp); first | done | with_reducible rfl
      try simp only [Act.put, List.setIfInBounds_toArray, List.set_cons_zero, List.set_cons_succ]
      replace hS := Till.list 4 hS
      refine take_g (i := 8) (v := ?_) [8] (some 100) rfl (by kernel_rfl) rfl (fun _ _ _ h => h) (Or.inl ⟨by rfl, ?_⟩) hS ?_
      rotate_left
      · (intro wq hq; have q0 := hq _ _ _ e1; have q1 := hq _ _ _ e2; go_simp); first | done | with_reducible rfl
      try simp only [Act.put, List.setIfInBounds_toArray, List.set_cons_zero, List.set_cons_succ]
      replace hS := Till.list 8 hS
      refine ready_g (rs := [9]) (by kernel_rfl) (by simp) ?_
      refine AllReadyG.cons rfl (fun Kont hK => ?_) AllReadyG.nil
      go_simp
      refine cc.mono ?_
      rintro en w' ⟨rfl, hb'⟩
      refine hK.out _ _ (Or.inl (by kernel_rfl)) (fun hS0 => ?_)
      clear hK Kont
      try simp only [Act.put, List.setIfInBounds_toArray, List.set_cons_zero, List.set_cons_succ]
      clear hS
      have hS := hS0
      clear hS0
      refine take_w (i := 10) (v := ?_) (some 102) rfl (by kernel_rfl) rfl (fun _ _ _ h => h) (Or.inl ⟨by rfl, ?_⟩) hS ?_
      rotate_left
      · (intro wq hq; go_simp); first | done | with_reducible rfl
      try simp only [Act.put, List.setIfInBounds_toArray, List.set_cons_zero, List.set_cons_succ]
      replace hS := Till.list 10 hS
      refine take_w (i := 11) (v := ?_) (some 103) rfl (by kernel_rfl) rfl (fun _ _ _ h => h) (Or.inl ⟨by rfl, ?_⟩) hS ?_
      rotate_left
      · (intro wq hq; go_simp); first | done | with_reducible rfl
      try simp only [Act.put, List.setIfInBounds_toArray, List.set_cons_zero, List.set_cons_succ]
      replace hS := Till.list 11 hS
      refine done_g (by kernel_rfl) (NoPanic.normal ?_) _
      clear hS
      have h1 := hr.drew.below hb'
      clear hr e1 e2 cc hb' w1
      cases hq : decide (r < 0)
      · have hr0 := of_decide_eq_false hq
        have HJ2 := Lib.hid (HJ.out.up HMo.out hih.1 hih.2 (by rw [HR.out]; omega))
        have w3 : IntKind.i64.wrap ((h : Int) + 1) = ((h + 1 : Nat) : Int) := by rw [IntKind.wrap_i64]; omega
        clear hq hr0
        go_wp2_with fail
        go_roundw
        case rel => exact ⟨h + 1, j, by go_num, rfl, by omega, h1, HJ2⟩
        case measure => simp [intOf]; omega
      · have hr0 := of_decide_eq_true hq
        have HJ2 := Lib.hid (HJ.out.down HMo.out hih.1 hih.2 (by rw [HR.out]; omega))
        clear hq hr0
        go_wp2_with fail
        go_roundw
        case rel => exact ⟨i, h, rfl, rfl, by omega, h1, HJ2⟩
        case measure => simp [intOf]; omega
    · have hlt' : ¬ (i : Int) < (j : Int) := by omega
      obtain rfl : i = j := by omega
      have hs0 : SW w0 g n e (fun x => s (roP m m (m + 1) x)) wr := hr.same (fun x _ => by rw [roP_nil])
      clear hr
      go_wp2_with fail
      go_loopw [17] (fun vk wx => ∃ (k : Nat), vk = .int .i64 (k : Int) ∧ (i ≤ k ∧ k ≤ m) ∧ SW w0 g n e (fun x => s (roP k m (m + 1) x)) wx) (fun vk _ => (intOf vk).toNat)
      case atStart => exact ⟨m, rfl, by omega, hs0⟩
      case round =>
        clear hs0
        obtain ⟨k, rfl, hk, hr⟩ := hrel
        by_cases hkp : i < k
        · have hkp' : (i : Int) < (k : Int) := by omega
          obtain ⟨k1, hk1⟩ : ∃ k1, k - 1 = k1 := ⟨_, rfl⟩
          have w2 : IntKind.i64.wrap ((k : Int) - 1) = (k1 : Int) := by rw [IntKind.wrap_i64]; omega
          have hkn : k < n := by omega
          have hkn1 : k1 < n := by omega
          have hk2 : k = k1 + 1 := by omega
          have HK := Lib.hid hk2
          have HQ : Hid (∀ x, s (roP k m (m + 1) (swP k k1 x)) = s (roP k1 m (m + 1) x)) := fun x => by rw [hk2, roP_down (by omega)]
          clear hk1 hk2
          have e1 := hr.bk.cell k (rowsA_at hkn)
          have e2 := hr.bk.cell k1 (rowsA_at hkn1)
          have f1 := hr.bk.free k
          have g1 : ∃ v, (wr.setCell ⟨g, k, none⟩ (sV (e (s (roP k m (m + 1) k1))))).cell? ⟨g, k1, none⟩ = some v := ⟨_, (hr.bk.set k _).cell k1 (by rw [Array.getElem?_eq_getElem (by simp [rowsA_size]; exact hkn1)])⟩
          obtain ⟨v1, g1⟩ := g1
          have f2 := hr.bk.free k1
          have HN := (hr.swap hkn hkn1).drew
          go_wp2_with fail
          refine wp_region_noPanic ?_
          refine region_g 15 (Ext (World.drew _)) (by kernel_rfl) (Ext.refl _) (fun hS => ?_)
          refine take_w (i := 0) (v := ?_) (some 113) rfl (by kernel_rfl) rfl (fun _ _ _ h => h) (Or.inl ⟨by rfl, ?_⟩) hS ?_
          rotate_left
          · (intro wq hq; go_simp); first | done | with_reducible rfl
          try simp only [Act.put, List.setIfInBounds_toArray, List.set_cons_zero, List.set_cons_succ]
          replace hS := Till.list 0 hS
          refine take_w (i := 1) (v := ?_) (some 114) rfl (by kernel_rfl) rfl (fun _ _ _ h => h) (Or.inl ⟨by rfl, ?_⟩) hS ?_
          rotate_left
          · (intro wq hq; go_simp); first | done | with_reducible rfl
          try simp only [Act.put, List.setIfInBounds_toArray, List.set_cons_zero, List.set_cons_succ]
          replace hS := Till.list 1 hS
          refine take_w (i := 2) (v := ?_) (some 115) rfl (by kernel_rfl) rfl (fun _ _ _ h => h) (Or.inl ⟨by rfl, ?_⟩) hS ?_
          rotate_left
          · (intro wq hq; go_simp); first | done | with_reducible rfl
          try simp only [Act.put, List.setIfInBounds_toArray, List.set_cons_zero, List.set_cons_succ]
          replace hS := Till.list 2 hS
          refine take_w (i := 3) (v := ?_) (some 116) rfl (by kernel_rfl) rfl (fun _ _ _ h => h) (Or.inl ⟨by rfl, ?_⟩) hS ?_
          rotate_left
          · (intro wq hq; go_simp); first | done | with_reducible rfl
          try simp only [Act.put, List.setIfInBounds_toArray, List.set_cons_zero, List.set_cons_succ]
          replace hS := Till.list 3 hS
          refine take_w (i := 5) (v := ?_) (some 118) rfl (by kernel_rfl) rfl (fun _ _ _ h => h) (Or.inl ⟨by rfl, ?_⟩) hS ?_
          rotate_left
          · (intro wq hq; go_simp); first | done | with_reducible rfl
          try simp only [Act.put, List.setIfInBounds_toArray, List.set_cons_zero, List.set_cons_succ]
          replace hS := Till.list 5 hS
          refine take_w (i := 6) (v := ?_) (some 119) rfl (by kernel_rfl) rfl (fun _ _ _ h => h) (Or.inl ⟨by rfl, ?_⟩) hS ?_
          rotate_left
          · (intro wq hq; go_simp); first | done | with_reducible rfl
          try simp only [Act.put, List.setIfInBounds_toArray, List.set_cons_zero, List.set_cons_succ]
          replace hS := Till.list 6 hS
          refine take_w (i := 10) (v := ?_) (some 123) rfl (by kernel_rfl) rfl (fun _ _ _ h => h) (Or.inl ⟨by rfl, ?_⟩) hS ?_
          rotate_left
          · (intro wq hq; go_simp); first | done | with_reducible rfl
          try simp only [Act.put, List.setIfInBounds_toArray, List.set_cons_zero, List.set_cons_succ]
          replace hS := Till.list 10 hS
          refine take_w (i := 11) (v := ?_) (some 124) rfl (by kernel_rfl) rfl (fun _ _ _ h => h) (Or.inl ⟨by rfl, ?_⟩) hS ?_
          rotate_left
          · (intro wq hq; go_simp); first | done | with_reducible rfl
          try simp only [Act.put, List.setIfInBounds_toArray, List.set_cons_zero, List.set_cons_succ]
          replace hS := Till.list 11 hS
          refine take_w (i := 4) (v := ?_) (some 117) rfl (by kernel_rfl) rfl (fun _ _ _ h => h) (Or.inl ⟨by rfl, ?_⟩) hS ?_
          rotate_left
          · (intro wq hq; go_simp); first | done | with_reducible rfl
          try simp only [Act.put, List.setIfInBounds_toArray, List.set_cons_zero, List.set_cons_succ]
          replace hS := Till.list 4 hS
          refine take_w (i := 7) (v := ?_) (some 120) rfl (by kernel_rfl) rfl (fun _ _ _ h => h) (Or.inl ⟨by rfl, ?_⟩) hS ?_
          rotate_left
          · (intro wq hq; go_simp); first | done | with_reducible rfl
          try simp only [Act.put, List.setIfInBounds_toArray, List.set_cons_zero, List.set_cons_succ]
          replace hS := Till.list 7 hS
          refine take_w (i := 12) (v := ?_) (some 125) rfl (by kernel_rfl) rfl (fun _ _ _ h => h) (Or.inl ⟨by rfl, ?_⟩) hS ?_
          rotate_left
          · (intro wq hq; go_simp); first | done | with_reducible rfl
          try simp only [Act.put, List.setIfInBounds_toArray, List.set_cons_zero, List.set_cons_succ]
          replace hS := Till.list 12 hS
          refine take_w (i := 8) (v := ?_) (some 121) rfl (by kernel_rfl) rfl (fun _ _ _ h => h) (Or.inl ⟨by rfl, ?_⟩) hS ?_
          rotate_left
          · (intro wq hq; go_simp); first | done | with_reducible rfl
          try simp only [Act.put, List.setIfInBounds_toArray, List.set_cons_zero, List.set_cons_succ]
          replace hS := Till.list 8 hS
          refine take_g (i := 13) (v := ?_) [13] (some 126) rfl (by kernel_rfl) rfl (fun _ _ _ h => h) (Or.inl ⟨by rfl, ?_⟩) hS ?_
          rotate_left
          · (intro wq hq; have q0 := hq _ _ _ e1; have q1 := hq _ _ _ e2; go_simp); first | done | with_reducible rfl
          try simp only [Act.put, List.setIfInBounds_toArray, List.set_cons_zero, List.set_cons_succ]
          replace hS := Till.list 13 hS
          refine take_g (i := 9) (v := ?_) [9] (some 122) rfl (by kernel_rfl) rfl (fun _ _ _ h => h) (Or.inl ⟨by rfl, ?_⟩) hS ?_
          rotate_left
          · (intro wq hq; have q0 := hq _ _ _ e1; have q1 := hq _ _ _ e2; go_simp); first | done | with_reducible rfl
          try simp only [Act.put, List.setIfInBounds_toArray, List.set_cons_zero, List.set_cons_succ]
          replace hS := Till.list 9 hS
          refine take_w (i := 14) (v := ?_) (some 127) rfl (by kernel_rfl) rfl (fun _ _ _ h => h) (Or.inl ⟨by rfl, ?_⟩) hS ?_
          rotate_left
          · (intro wq hq; go_simp); first | done | with_reducible rfl
          try simp only [Act.put, List.setIfInBounds_toArray, List.set_cons_zero, List.set_cons_succ]
          replace hS := Till.list 14 hS
          refine ready_g (rs := [15]) (by kernel_rfl) (by simp) ?_
          refine AllReadyG.cons rfl (fun Kont hK => ?_) AllReadyG.nil
          go_simp
          refine hK.out _ _ (Or.inl (by kernel_rfl)) (fun hS0 => ?_)
          clear hK Kont
          try simp only [Act.put, List.setIfInBounds_toArray, List.set_cons_zero, List.set_cons_succ]
          clear hS
          have hS := hS0
          clear hS0
          refine take_w (i := 16) (v := ?_) (some 128) rfl (by kernel_rfl) rfl (fun _ _ _ h => h) (Or.inl ⟨by rfl, ?_⟩) hS ?_
          rotate_left
          · (intro wq hq; go_simp); first | done | with_reducible rfl
          try simp only [Act.put, List.setIfInBounds_toArray, List.set_cons_zero, List.set_cons_succ]
          replace hS := Till.list 16 hS
          refine ready_g (rs := [17]) (by kernel_rfl) (by simp) ?_
          refine AllReadyG.cons rfl (fun Kont hK => ?_) AllReadyG.nil
          go_simp
          refine hK.out _ _ (Or.inl (by kernel_rfl)) (fun hS0 => ?_)
          clear hK Kont
          try simp only [Act.put, List.setIfInBounds_toArray, List.set_cons_zero, List.set_cons_succ]
          clear hS
          have hS := hS0
          clear hS0
          refine done_g (by kernel_rfl) (NoPanic.normal ?_) _
          clear hS
          go_wp2_with fail
          go_roundw
          case rel => exact ⟨k1, rfl, by have := HK.out; omega, HN.same (fun z _ => by rw [← HQ.out])⟩
          case measure => have := HK.out; simp [intOf]; omega
        · have hkp' : ¬ (i : Int) < (k : Int) := by omega
          obtain rfl : k = i := by omega
          go_wp2_with fail
          (try simp only [Exit.inBlock, Exit.then])
          refine bodyPost_ret (results_none rfl _ _ _) rfl ?_
          refine ⟨rfl, _, ?_, hr⟩
          have qm := HM.out
          have hJ := HJ.out
          rw [← qm]
          exact sym_right ho HSt.out (by omega) (by omega) (by omega) H2.out (fun x k1 k2 => by have := hJ.no x k1 k2; omega) (fun x k1 k2 => hJ.yes x k1 k2)
end Go.Proofs.Ytloohkgiicgndaa
