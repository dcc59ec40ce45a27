/- Texts that belong together, one behind the other: D8o, D8r. -/
import Derived.Test.YtlagmjdldplblaaDiskA
/- Contracts of package disk: a step. -/
namespace Go.Proofs.Ytlagmjdldplblaa
open Go.ChangeShapes Go.WideShapes Go.ChangeAt Go.RowKit Go.WideMaps Go.Maps
set_option linter.unusedVariables false
set_option maxRecDepth 4000

/-- w has all blocks of V as they were -/
structure Old (V w : World) : Prop where
  size : V.heap.size ≤ w.heap.size
  block : ∀ b, b < V.heap.size → w.heap[b]? = V.heap[b]?
theorem Old.refl (V : World) : Old V V := ⟨Nat.le_refl _, fun _ _ => rfl⟩
theorem Old.drew {V w : World} (h : Old V w) : Old V w.drew := ⟨h.size, h.block⟩
theorem Old.alloc {V w : World} (h : Old V w) (o : Obj) : Old V (w.alloc o) := ⟨by have := h.size; show _ ≤ (w.heap.push o).size; simp; omega, fun b hb => (Below.heap_alloc w o b (Nat.lt_of_lt_of_le hb h.size)).trans (h.block b hb)⟩
theorem Old.cell {V w : World} (h : Old V w) {b i : Nat} {v : Value} (hc : V.cell? ⟨b, i, none⟩ = some v) : w.cell? ⟨b, i, none⟩ = some v := cell_block (h.block b (cell_lt hc)) hc
theorem Old.below {V w w' : World} (h : Old V w) (hb : Below w.heap.size w w') : Old V w' := ⟨Nat.le_trans h.size hb.size, fun b hl => (hb.block b (Nat.lt_of_lt_of_le hl h.size)).trans (h.block b hl)⟩
theorem Old.setNew {V w : World} (h : Old V w) {b i : Nat} (hb : V.heap.size ≤ b) (u : Value) : Old V (w.setCell ⟨b, i, none⟩ u) := ⟨by rw [size_set]; exact h.size, fun c hc => (Below.heap_setCell _ _ _ _ (by rintro rfl; have : V.heap.size ≤ c := hb; omega)).trans (h.block c hc)⟩
theorem Old.frozen {V w : World} (h : Old V w) {b i : Nat} (hb : b < V.heap.size) (hf : V.frozen? ⟨b, i, none⟩ = false) : w.frozen? ⟨b, i, none⟩ = false := by
  rw [← hf]; exact World.frozen?_of_block (h.block b hb)
theorem Kp.old {F : Nat → Prop} {a V w : World} (h : Kp F a V) (o : Old V w) (e1 : w.os = V.os) (e2 : w.tape = V.tape) (e3 : w.output = V.output) : Kp F a w :=
  ⟨e1.trans h.os, e2.trans h.tape, e3.trans h.output, Nat.le_trans h.size o.size, fun i hi hn => (o.block i (Nat.lt_of_lt_of_le hi h.size)).trans (h.block i hi hn)⟩
theorem DD.old {g : G8} {k : Nat} {V w : World} {F : Nat → Prop} {p : Nat} {M : DK} (h : DD g k V F p M) (o : Old V w) : DD g k w F p M := h.same (fun b _ hl => o.block b hl)
theorem unit8 (w : World) : (zeroValue 99).run Try.prog w = .ok (.agg #[]) w := by go_simp
/-- what the steps that fail tell of a number -/
theorem XMap.look {rl : Nat → Nat} {D : DataW Value} {w : World} {F : Nat → Prop} {o : Option Nat} {l : List Int} (h : XMap rl D w F o l) {x : Int} (h0 : -1000000 ≤ x) (h1 : x ≤ 1000000) :
    (Instr.lookup 69 (.map o) (.int .i64 x) true).run Try.prog w = .ok (.tuple #[.agg #[], .bool (decide (x ∈ l))]) w := by
  have hk : keyOf Try.prog 3 (.int .i64 x) = some (.int .i64 x) := keyOf_int_mk Try.underlying3 (wf8 h0 h1)
  rcases h with ⟨rfl, rfl⟩ | ⟨b, rfl, ho, hx, -⟩
  · have := look_nil (P := Try.prog) (w := w) true law8I Try.underlying69 (unit8 w) hk
    simpa using this
  · obtain ⟨v, ps, hrun, hv⟩ := World.ownsMap.look_ok ho law8I Try.underlying69 (unit8 w) unitElem_mk hk
    obtain ⟨rfl, -⟩ := unitElem_inv hv
    rw [hrun, hx x (by omega) (by unfold maxI; omega)]
/-- a number of an error is told -/
def Tells (R : Int → World → Prop) (e : Ending) (w : World) : Prop := ∃ v, e = .returned (.int .i64 v) ∧ R v w
section
variable {g : G8} {k : Nat} {w : World} {F : Nat → Prop} {p : Nat} {M : DK}
theorem stepD_dead (h : M.dead = true ∨ ∃ n, M.limit = some n ∧ n ≤ M.taken) : stepD M = ({ M with dead := true }, 34) := by unfold stepD; rw [if_pos h]
theorem stepD_fail (h : ¬ (M.dead = true ∨ ∃ n, M.limit = some n ∧ n ≤ M.taken)) (hf : ((M.taken + 1 : Nat) : Int) ∈ M.fails) : stepD M = ({ M with taken := M.taken + 1 }, 33) := by unfold stepD; rw [if_neg h, if_pos hf]
theorem stepD_ok (h : ¬ (M.dead = true ∨ ∃ n, M.limit = some n ∧ n ≤ M.taken)) (hf : ((M.taken + 1 : Nat) : Int) ∉ M.fails) : stepD M = ({ M with taken := M.taken + 1 }, 0) := by unfold stepD; rw [if_neg h, if_neg hf]
theorem DD.died (h : DD g k w F p M) : DD g k (w.setCell ⟨p, 9, none⟩ (.bool true)) F p { M with dead := true } := by
  refine h.hdr k _ rfl rfl rfl rfl rfl rfl (Nat.le_refl _) h.pl.taken h.pl.limit (Nat.le_refl _) (h.blk.set 9 _) (fun b hb hne _ => Below.heap_setCell _ _ _ _ hne)
theorem DD.took (h : DD g k w F p M) : DD g (k + 1) (w.setCell ⟨p, 5, none⟩ (.int .i64 ((M.taken : Int) + 1))) F p { M with taken := M.taken + 1 } := by
  refine h.hdr (k + 1) _ rfl rfl rfl rfl rfl rfl (Nat.le_succ _) (Nat.succ_le_succ h.pl.taken) h.pl.limit (Nat.le_succ _) (h.blk.set 5 _) (fun b hb hne _ => Below.heap_setCell _ _ _ _ hne)
end
set_option maxHeartbeats 1000000 in
theorem step_any (g : G8) (k : Nat) (w : World) (F : Nat → Prop) (p : Nat) (M : DK) (hk : k ≤ 1000) (hF : ∀ b, w.heap.size ≤ b → F b) (h : DD g k w F p M) (fd ff : Nat) (cd cf : Array Value) (R : Int → World → Prop)
    (ed : ∀ args w, (callFunc fd args).run Try.prog w = .ok (.enter fd args) w) (ef : ∀ args w, (callFunc ff args).run Try.prog w = .ok (.enter ff args) w)
    (hdead : (stepD M).2 = 34 → ∀ w1, DD g k w1 F p (stepD M).1 → Kp F w w1 → R 34 w1)
    (hfail : (stepD M).2 = 33 → ∀ w1, DD g (k + 1) w1 F p (stepD M).1 → Kp F w w1 → Calls Try.prog ff cf w1 fun e w2 => e = .returned (.tuple #[]) ∧ R 33 w2)
    (hdo : (stepD M).2 = 0 → ∀ w1, DD g (k + 1) w1 F p (stepD M).1 → Kp F w w1 → Calls Try.prog fd cd w1 (Tells R)) :
    Calls Try.prog 53 #[.pointer (some ⟨p, 0, none⟩), .func (.func fd) #[] cd, .func (.func ff) #[] cf] w (Tells R) := by
  have hB := h.blk
  have ht := h.pl.taken
  go_enter Try.func53, Try.ntmps53
  go_wp2_with fail
  by_cases hl : M.limit.isSome = true
  · have c7 := hB.cell 7 (v := .bool M.limit.isSome) rfl
    rw [hl] at c7
    obtain ⟨n, hn⟩ := Option.isSome_iff_exists.1 hl
    have c5 := hB.cell 5 (v := .int .i64 (M.taken : Int)) rfl
    have c8 := hB.cell 8 (v := .int .i64 ((M.limit.getD 0 : Nat) : Int)) rfl
    rw [hn] at c8
    simp only [Option.getD_some] at c8
    by_cases hle : n ≤ M.taken
    · have hD : decide ((n : Int) ≤ (M.taken : Int)) = true := by simpa using hle
      have hD2 : decide (n ≤ M.taken) = true := by simpa using hle
      refine wp_region_noPanic ?_
      refine region_g 15 (Ext (World.drew _)) (by kernel_rfl) (Ext.refl _) (fun hS => ?_)
      refine take_w (i := 0) (v := ?_) (some 9) rfl (by kernel_rfl) rfl (fun _ _ _ h => h) (Or.inl ⟨by rfl, ?_⟩) hS ?_
      rotate_left
      · (intro wq hq; go_simp); first | done | with_reducible rfl
      try simp only [Act.put, List.setIfInBounds_toArray, List.set_cons_zero, List.set_cons_succ]
      replace hS := Till.list 0 hS
      refine take_w (i := 1) (v := ?_) (some 10) rfl (by kernel_rfl) rfl (fun _ _ _ h => h) (Or.inl ⟨by rfl, ?_⟩) hS ?_
      rotate_left
      · (intro wq hq; go_simp); first | done | with_reducible rfl
      try simp only [Act.put, List.setIfInBounds_toArray, List.set_cons_zero, List.set_cons_succ]
      replace hS := Till.list 1 hS
      refine take_w (i := 2) (v := ?_) (some 11) rfl (by kernel_rfl) rfl (fun _ _ _ h => h) (Or.inl ⟨by rfl, ?_⟩) hS ?_
      rotate_left
      · (intro wq hq; go_simp); first | done | with_reducible rfl
      try simp only [Act.put, List.setIfInBounds_toArray, List.set_cons_zero, List.set_cons_succ]
      replace hS := Till.list 2 hS
      refine take_n (i := 3) (v := ?_) (some 12) rfl (by kernel_rfl) rfl (fun _ _ _ h => h) (Or.inl ⟨by rfl, ?_⟩) hS ?_
      rotate_left
      · (intro wq hq; have q0 := hq _ _ _ c7; have q1 := hq _ _ _ c5; have q2 := hq _ _ _ c8; go_simp); first | done | with_reducible rfl
      try simp only [Act.put, List.setIfInBounds_toArray, List.set_cons_zero, List.set_cons_succ]
      replace hS := Till.list 3 hS
      refine take_w (i := 4) (v := ?_) (some 13) rfl (by kernel_rfl) rfl (fun _ _ _ h => h) (Or.inl ⟨by rfl, ?_⟩) hS ?_
      rotate_left
      · (intro wq hq; go_simp); first | done | with_reducible rfl
      try simp only [Act.put, List.setIfInBounds_toArray, List.set_cons_zero, List.set_cons_succ]
      replace hS := Till.list 4 hS
      refine take_w (i := 5) (v := ?_) (some 14) rfl (by kernel_rfl) rfl (fun _ _ _ h => h) (Or.inl ⟨by rfl, ?_⟩) hS ?_
      rotate_left
      · (intro wq hq; go_simp); first | done | with_reducible rfl
      try simp only [Act.put, List.setIfInBounds_toArray, List.set_cons_zero, List.set_cons_succ]
      replace hS := Till.list 5 hS
      refine take_w (i := 9) (v := ?_) (some 18) rfl (by kernel_rfl) rfl (fun _ _ _ h => h) (Or.inl ⟨by rfl, ?_⟩) hS ?_
      rotate_left
      · (intro wq hq; go_simp); first | done | with_reducible rfl
      try simp only [Act.put, List.setIfInBounds_toArray, List.set_cons_zero, List.set_cons_succ]
      replace hS := Till.list 9 hS
      refine take_w (i := 6) (v := ?_) (some 15) rfl (by kernel_rfl) rfl (fun _ _ _ h => h) (Or.inl ⟨by rfl, ?_⟩) hS ?_
      rotate_left
      · (intro wq hq; go_simp); first | done | with_reducible rfl
      try simp only [Act.put, List.setIfInBounds_toArray, List.set_cons_zero, List.set_cons_succ]
      replace hS := Till.list 6 hS
      refine take_w (i := 10) (v := ?_) (some 19) rfl (by kernel_rfl) rfl (fun _ _ _ h => h) (Or.inl ⟨by rfl, ?_⟩) hS ?_
      rotate_left
      · (intro wq hq; go_simp); first | done | with_reducible rfl
      try simp only [Act.put, List.setIfInBounds_toArray, List.set_cons_zero, List.set_cons_succ]
      replace hS := Till.list 10 hS
      refine take_w (i := 7) (v := ?_) (some 16) rfl (by kernel_rfl) rfl (fun _ _ _ h => h) (Or.inl ⟨by rfl, ?_⟩) hS ?_
      rotate_left
      · (intro wq hq; go_simp); first | done | with_reducible rfl
      try simp only [Act.put, List.setIfInBounds_toArray, List.set_cons_zero, List.set_cons_succ]
      replace hS := Till.list 7 hS
      refine take_w (i := 11) (v := ?_) (some 20) rfl (by kernel_rfl) rfl (fun _ _ _ h => h) (Or.inl ⟨by rfl, ?_⟩) hS ?_
      rotate_left
      · (intro wq hq; go_simp); first | done | with_reducible rfl
      try simp only [Act.put, List.setIfInBounds_toArray, List.set_cons_zero, List.set_cons_succ]
      replace hS := Till.list 11 hS
      refine take_n (i := 8) (v := ?_) (some 17) rfl (by kernel_rfl) rfl (fun _ _ _ h => h) (Or.inl ⟨by rfl, ?_⟩) hS ?_
      rotate_left
      · (intro wq hq; have q0 := hq _ _ _ c7; have q1 := hq _ _ _ c5; have q2 := hq _ _ _ c8; go_simp); first | done | with_reducible rfl
      try simp only [Act.put, List.setIfInBounds_toArray, List.set_cons_zero, List.set_cons_succ]
      replace hS := Till.list 8 hS
      refine take_n (i := 12) (v := ?_) (some 21) rfl (by kernel_rfl) rfl (fun _ _ _ h => h) (Or.inl ⟨by rfl, ?_⟩) hS ?_
      rotate_left
      · (intro wq hq; have q0 := hq _ _ _ c7; have q1 := hq _ _ _ c5; have q2 := hq _ _ _ c8; go_simp); first | done | with_reducible rfl
      try simp only [Act.put, List.setIfInBounds_toArray, List.set_cons_zero, List.set_cons_succ]
      replace hS := Till.list 12 hS
      refine take_w (i := 13) (v := ?_) (some 22) rfl (by kernel_rfl) rfl (fun _ _ _ h => h) (Or.inl ⟨by rfl, ?_⟩) hS ?_
      rotate_left
      · (intro wq hq; go_simp); first | done | with_reducible rfl
      try simp only [Act.put, List.setIfInBounds_toArray, List.set_cons_zero, List.set_cons_succ]
      replace hS := Till.list 13 hS
      refine take_w (i := 14) (v := ?_) (some 23) rfl (by kernel_rfl) rfl (fun _ _ _ h => h) (Or.inl ⟨by rfl, ?_⟩) hS ?_
      rotate_left
      · (intro wq hq; go_simp); first | done | with_reducible rfl
      try simp only [Act.put, List.setIfInBounds_toArray, List.set_cons_zero, List.set_cons_succ]
      replace hS := Till.list 14 hS
      refine done_g (by kernel_rfl) (NoPanic.normal ?_) _
      clear hS
      have f9 := hB.free 9
      have hs := stepD_dead (M := M) (.inr ⟨n, hn, hle⟩)
      rw [hs] at hdead
      have HD := Lib.hid (hdead rfl)
      have c9 := hB.cell 9 (v := .bool M.dead) rfl
      clear hfail hdo hdead
      go_wp2_with fail
      go_ret
      exact ⟨34, rfl, HD.out _ h.died.drew ((Kp.refl F w).setCell (.inl h.foot.1) _).drew⟩
    · have hD : decide ((n : Int) ≤ (M.taken : Int)) = false := by simpa using hle
      have hD2 : decide (n ≤ M.taken) = false := by simpa using hle
      refine wp_region_noPanic ?_
      refine region_g 15 (Ext (World.drew _)) (by kernel_rfl) (Ext.refl _) (fun hS => ?_)
      refine take_w (i := 0) (v := ?_) (some 9) rfl (by kernel_rfl) rfl (fun _ _ _ h => h) (Or.inl ⟨by rfl, ?_⟩) hS ?_
      rotate_left
      · (intro wq hq; go_simp); first | done | with_reducible rfl
      try simp only [Act.put, List.setIfInBounds_toArray, List.set_cons_zero, List.set_cons_succ]
      replace hS := Till.list 0 hS
      refine take_w (i := 1) (v := ?_) (some 10) rfl (by kernel_rfl) rfl (fun _ _ _ h => h) (Or.inl ⟨by rfl, ?_⟩) hS ?_
      rotate_left
      · (intro wq hq; go_simp); first | done | with_reducible rfl
      try simp only [Act.put, List.setIfInBounds_toArray, List.set_cons_zero, List.set_cons_succ]
      replace hS := Till.list 1 hS
      refine take_w (i := 2) (v := ?_) (some 11) rfl (by kernel_rfl) rfl (fun _ _ _ h => h) (Or.inl ⟨by rfl, ?_⟩) hS ?_
      rotate_left
      · (intro wq hq; go_simp); first | done | with_reducible rfl
      try simp only [Act.put, List.setIfInBounds_toArray, List.set_cons_zero, List.set_cons_succ]
      replace hS := Till.list 2 hS
      refine take_n (i := 3) (v := ?_) (some 12) rfl (by kernel_rfl) rfl (fun _ _ _ h => h) (Or.inl ⟨by rfl, ?_⟩) hS ?_
      rotate_left
      · (intro wq hq; have q0 := hq _ _ _ c7; have q1 := hq _ _ _ c5; have q2 := hq _ _ _ c8; go_simp); first | done | with_reducible rfl
      try simp only [Act.put, List.setIfInBounds_toArray, List.set_cons_zero, List.set_cons_succ]
      replace hS := Till.list 3 hS
      refine take_w (i := 4) (v := ?_) (some 13) rfl (by kernel_rfl) rfl (fun _ _ _ h => h) (Or.inl ⟨by rfl, ?_⟩) hS ?_
      rotate_left
      · (intro wq hq; go_simp); first | done | with_reducible rfl
      try simp only [Act.put, List.setIfInBounds_toArray, List.set_cons_zero, List.set_cons_succ]
      replace hS := Till.list 4 hS
      refine take_w (i := 5) (v := ?_) (some 14) rfl (by kernel_rfl) rfl (fun _ _ _ h => h) (Or.inl ⟨by rfl, ?_⟩) hS ?_
      rotate_left
      · (intro wq hq; go_simp); first | done | with_reducible rfl
      try simp only [Act.put, List.setIfInBounds_toArray, List.set_cons_zero, List.set_cons_succ]
      replace hS := Till.list 5 hS
      refine take_w (i := 9) (v := ?_) (some 18) rfl (by kernel_rfl) rfl (fun _ _ _ h => h) (Or.inl ⟨by rfl, ?_⟩) hS ?_
      rotate_left
      · (intro wq hq; go_simp); first | done | with_reducible rfl
      try simp only [Act.put, List.setIfInBounds_toArray, List.set_cons_zero, List.set_cons_succ]
      replace hS := Till.list 9 hS
      refine take_w (i := 6) (v := ?_) (some 15) rfl (by kernel_rfl) rfl (fun _ _ _ h => h) (Or.inl ⟨by rfl, ?_⟩) hS ?_
      rotate_left
      · (intro wq hq; go_simp); first | done | with_reducible rfl
      try simp only [Act.put, List.setIfInBounds_toArray, List.set_cons_zero, List.set_cons_succ]
      replace hS := Till.list 6 hS
      refine take_w (i := 10) (v := ?_) (some 19) rfl (by kernel_rfl) rfl (fun _ _ _ h => h) (Or.inl ⟨by rfl, ?_⟩) hS ?_
      rotate_left
      · (intro wq hq; go_simp); first | done | with_reducible rfl
      try simp only [Act.put, List.setIfInBounds_toArray, List.set_cons_zero, List.set_cons_succ]
      replace hS := Till.list 10 hS
      refine take_w (i := 7) (v := ?_) (some 16) rfl (by kernel_rfl) rfl (fun _ _ _ h => h) (Or.inl ⟨by rfl, ?_⟩) hS ?_
      rotate_left
      · (intro wq hq; go_simp); first | done | with_reducible rfl
      try simp only [Act.put, List.setIfInBounds_toArray, List.set_cons_zero, List.set_cons_succ]
      replace hS := Till.list 7 hS
      refine take_w (i := 11) (v := ?_) (some 20) rfl (by kernel_rfl) rfl (fun _ _ _ h => h) (Or.inl ⟨by rfl, ?_⟩) hS ?_
      rotate_left
      · (intro wq hq; go_simp); first | done | with_reducible rfl
      try simp only [Act.put, List.setIfInBounds_toArray, List.set_cons_zero, List.set_cons_succ]
      replace hS := Till.list 11 hS
      refine take_n (i := 8) (v := ?_) (some 17) rfl (by kernel_rfl) rfl (fun _ _ _ h => h) (Or.inl ⟨by rfl, ?_⟩) hS ?_
      rotate_left
      · (intro wq hq; have q0 := hq _ _ _ c7; have q1 := hq _ _ _ c5; have q2 := hq _ _ _ c8; go_simp); first | done | with_reducible rfl
      try simp only [Act.put, List.setIfInBounds_toArray, List.set_cons_zero, List.set_cons_succ]
      replace hS := Till.list 8 hS
      refine take_n (i := 12) (v := ?_) (some 21) rfl (by kernel_rfl) rfl (fun _ _ _ h => h) (Or.inl ⟨by rfl, ?_⟩) hS ?_
      rotate_left
      · (intro wq hq; have q0 := hq _ _ _ c7; have q1 := hq _ _ _ c5; have q2 := hq _ _ _ c8; go_simp); first | done | with_reducible rfl
      try simp only [Act.put, List.setIfInBounds_toArray, List.set_cons_zero, List.set_cons_succ]
      replace hS := Till.list 12 hS
      refine take_w (i := 13) (v := ?_) (some 22) rfl (by kernel_rfl) rfl (fun _ _ _ h => h) (Or.inl ⟨by rfl, ?_⟩) hS ?_
      rotate_left
      · (intro wq hq; go_simp); first | done | with_reducible rfl
      try simp only [Act.put, List.setIfInBounds_toArray, List.set_cons_zero, List.set_cons_succ]
      replace hS := Till.list 13 hS
      refine take_w (i := 14) (v := ?_) (some 23) rfl (by kernel_rfl) rfl (fun _ _ _ h => h) (Or.inl ⟨by rfl, ?_⟩) hS ?_
      rotate_left
      · (intro wq hq; go_simp); first | done | with_reducible rfl
      try simp only [Act.put, List.setIfInBounds_toArray, List.set_cons_zero, List.set_cons_succ]
      replace hS := Till.list 14 hS
      refine done_g (by kernel_rfl) (NoPanic.normal ?_) _
      clear hS
      cases hde : M.dead with
      | true =>
        have c9 := hB.cell 9 (v := .bool M.dead) rfl
        rw [hde] at c9
        have hs := stepD_dead (M := M) (.inl hde)
        have hMM : ({ M with dead := true } : DK) = M := by rw [← hde]
        rw [hs] at hdead
        have HD := Lib.hid (hdead rfl)
        clear hfail hdo hdead
        go_wp2_with fail
        go_ret
        exact ⟨34, rfl, HD.out _ (by rw [hMM]; exact h.drew) (Kp.refl F w).drew⟩
      | false =>
        have c9 := hB.cell 9 (v := .bool M.dead) rfl
        rw [hde] at c9
        have hno : ¬ (M.dead = true ∨ ∃ n, M.limit = some n ∧ n ≤ M.taken) := by
          rintro (x | ⟨m, hm, hm2⟩)
          · rw [hde] at x; cases x
          · first | (rw [hn] at hm; cases hm; exact hle hm2) | (exact hle (by rw [hm]; rfl))
        have f5 := hB.free 5
        have c5a := hB.cell 5 (v := .int .i64 (M.taken : Int)) rfl
        have hMt : (M.taken : Int) ≤ 1000 := by omega
        go_wp2_with fail
        have hD1 := h.took.drew
        have hK1 : Kp F w (w.setCell ⟨p, 5, none⟩ (.int .i64 ((M.taken : Int) + 1))).drew := ((Kp.refl F w).setCell (.inl h.foot.1) _).drew
        generalize (w.setCell ⟨p, 5, none⟩ (.int .i64 ((M.taken : Int) + 1))).drew = w1 at hD1 hK1 ⊢
        clear hB c9 c7 f5 c5a
        have hX := hD1.fails
        have c6 := hD1.blk.cell 6 (v := .map g.bX) rfl
        have c5 := hD1.blk.cell 5 (v := .int .i64 ((M.taken + 1 : Nat) : Int)) rfl
        rw [Int.natCast_succ] at c5
        have hlk := fun wq (hq : Old w1 wq) => (hX.move (F' := F) (w' := wq) (rl' := g.rl) (fun b h1 h2 h3 => ⟨hq.block b h3, h1, h2⟩)).look (x := (M.taken : Int) + 1) (by omega) (by omega)
        have HK1 := Lib.hid hK1
        by_cases hfa : ((M.taken + 1 : Nat) : Int) ∈ M.fails
        · have hs2 := stepD_fail hno hfa
          rw [hs2] at hdo hfail hdead
          clear hdo hdead
          have hfa' : decide ((M.taken : Int) + 1 ∈ M.fails) = true := by rw [decide_eq_true_iff, ← Int.natCast_succ]; exact hfa
          simp only [hfa'] at hlk
          have HD := Lib.hid (hfail rfl)
          clear hfail
          refine wp_region_noPanic ?_
          refine region_g 13 (Old w1) (by kernel_rfl) ((Old.refl w1).drew) (fun hS => ?_)
          refine take_w (i := 0) (v := ?_) (some 39) rfl (by kernel_rfl) rfl (fun _ _ _ h => h) (Or.inl ⟨by rfl, ?_⟩) hS ?_
          rotate_left
          · (intro wq hq; go_simp); first | done | with_reducible rfl
          try simp only [Act.put, List.setIfInBounds_toArray, List.set_cons_zero, List.set_cons_succ]
          replace hS := Till.list 0 hS
          refine take_w (i := 4) (v := ?_) (some 43) rfl (by kernel_rfl) rfl (fun _ _ _ h => h) (Or.inl ⟨by rfl, ?_⟩) hS ?_
          rotate_left
          · (intro wq hq; go_simp); first | done | with_reducible rfl
          try simp only [Act.put, List.setIfInBounds_toArray, List.set_cons_zero, List.set_cons_succ]
          replace hS := Till.list 4 hS
          refine take_w (i := 1) (v := ?_) (some 40) rfl (by kernel_rfl) rfl (fun _ _ _ h => h) (Or.inl ⟨by rfl, ?_⟩) hS ?_
          rotate_left
          · (intro wq hq; go_simp); first | done | with_reducible rfl
          try simp only [Act.put, List.setIfInBounds_toArray, List.set_cons_zero, List.set_cons_succ]
          replace hS := Till.list 1 hS
          refine take_w (i := 5) (v := ?_) (some 44) rfl (by kernel_rfl) rfl (fun _ _ _ h => h) (Or.inl ⟨by rfl, ?_⟩) hS ?_
          rotate_left
          · (intro wq hq; go_simp); first | done | with_reducible rfl
          try simp only [Act.put, List.setIfInBounds_toArray, List.set_cons_zero, List.set_cons_succ]
          replace hS := Till.list 5 hS
          refine take_w (i := 2) (v := ?_) (some 41) rfl (by kernel_rfl) rfl (fun _ _ _ h => h) (Or.inl ⟨by rfl, ?_⟩) hS ?_
          rotate_left
          · (intro wq hq; go_simp); first | done | with_reducible rfl
          try simp only [Act.put, List.setIfInBounds_toArray, List.set_cons_zero, List.set_cons_succ]
          replace hS := Till.list 2 hS
          refine take_w (i := 6) (v := ?_) (some 45) rfl (by kernel_rfl) rfl (fun _ _ _ h => h) (Or.inl ⟨by rfl, ?_⟩) hS ?_
          rotate_left
          · (intro wq hq; go_simp); first | done | with_reducible rfl
          try simp only [Act.put, List.setIfInBounds_toArray, List.set_cons_zero, List.set_cons_succ]
          replace hS := Till.list 6 hS
          refine take_g (i := 3) (v := ?_) [3] (some 42) rfl (by kernel_rfl) rfl (fun _ _ _ h => h) (Or.inl ⟨by rfl, ?_⟩) hS ?_
          rotate_left
          · (intro wq hq; have q0 := hq.cell c6; have q1 := hq.cell c5; go_simp); first | done | with_reducible rfl
          try simp only [Act.put, List.setIfInBounds_toArray, List.set_cons_zero, List.set_cons_succ]
          replace hS := Till.list 3 hS
          refine take_g (i := 7) (v := ?_) [7] (some 46) rfl (by kernel_rfl) rfl (fun _ _ _ h => h) (Or.inl ⟨by rfl, ?_⟩) hS ?_
          rotate_left
          · (intro wq hq; have q0 := hq.cell c6; have q1 := hq.cell c5; go_simp); first | done | with_reducible rfl
          try simp only [Act.put, List.setIfInBounds_toArray, List.set_cons_zero, List.set_cons_succ]
          replace hS := Till.list 7 hS
          refine take_g (i := 8) (v := .tuple #[.agg #[], .bool true]) [8] (some 47) rfl (by kernel_rfl) rfl (fun _ _ _ h => h) (Or.inl ⟨by rfl, ?_⟩) hS ?_
          · (intro wq hq; (have q0 := hlk wq hq; go_simp))
          try simp only [Act.put, List.setIfInBounds_toArray, List.set_cons_zero, List.set_cons_succ]
          replace hS := Till.list 8 hS
          refine take_w (i := 9) (v := ?_) (some 38) rfl (by kernel_rfl) rfl (fun _ _ _ h => h) (Or.inl ⟨by rfl, ?_⟩) hS ?_
          rotate_left
          · (intro wq hq; go_simp); first | done | with_reducible rfl
          try simp only [Act.put, List.setIfInBounds_toArray, List.set_cons_zero, List.set_cons_succ]
          replace hS := Till.list 9 hS
          refine take_w (i := 10) (v := ?_) (some 48) rfl (by kernel_rfl) rfl (fun _ _ _ h => h) (Or.inl ⟨by rfl, ?_⟩) hS ?_
          rotate_left
          · (intro wq hq; go_simp); first | done | with_reducible rfl
          try simp only [Act.put, List.setIfInBounds_toArray, List.set_cons_zero, List.set_cons_succ]
          replace hS := Till.list 10 hS
          refine take_w (i := 11) (v := ?_) (some 49) rfl (by kernel_rfl) rfl (fun _ _ _ h => h) (Or.inl ⟨by rfl, ?_⟩) hS ?_
          rotate_left
          · (intro wq hq; go_simp); first | done | with_reducible rfl
          try simp only [Act.put, List.setIfInBounds_toArray, List.set_cons_zero, List.set_cons_succ]
          replace hS := Till.list 11 hS
          refine ready_g (rs := [12]) (by kernel_rfl) (by simp) ?_
          refine AllReadyG.cons rfl (fun Kont hK => ?_) AllReadyG.nil
          go_simp
          refine hK.out _ _ (Or.inr (((hS.get (by kernel_rfl)).alloc _))) (fun hS0 => ?_)
          clear hK Kont
          try simp only [Act.put, List.setIfInBounds_toArray, List.set_cons_zero, List.set_cons_succ]
          clear hS
          have hS := hS0
          clear hS0
          refine ready_g (rs := [13]) (by kernel_rfl) (by simp) ?_
          refine AllReadyG.cons rfl (fun Kont hK => ?_) AllReadyG.nil
          go_simp
          refine hK.out _ _ (Or.inl (by kernel_rfl)) (fun hS0 => ?_)
          clear hK Kont
          try simp only [Act.put, List.setIfInBounds_toArray, List.set_cons_zero, List.set_cons_succ]
          clear hS
          have hS := hS0
          clear hS0
          refine take_w (i := 14) (v := ?_) (some 8) rfl (by kernel_rfl) rfl (fun _ _ _ h => h) (Or.inl ⟨by rfl, ?_⟩) hS ?_
          rotate_left
          · (intro wq hq; go_simp); first | done | with_reducible rfl
          try simp only [Act.put, List.setIfInBounds_toArray, List.set_cons_zero, List.set_cons_succ]
          replace hS := Till.list 14 hS
          refine done_g (by kernel_rfl) (NoPanic.normal ?_) _
          clear hS
          go_wp2_with fail
          refine (HD.out _ (hD1.alloc _).drew (HK1.out.alloc _).drew).mono ?_
          rintro e w2 ⟨rfl, hr⟩
          have HR := Lib.hid hr
          clear hr hlk hX c6 c5 hK1 hD1
          go_wp2_with fail
          go_ret
          exact ⟨33, rfl, HR.out⟩
        · have hs2 := stepD_ok hno hfa
          rw [hs2] at hdo hfail hdead
          clear hfail hdead
          have hfa' : decide ((M.taken : Int) + 1 ∈ M.fails) = false := by rw [decide_eq_false_iff_not, ← Int.natCast_succ]; exact hfa
          simp only [hfa'] at hlk
          have HD := Lib.hid (hdo rfl)
          clear hdo
          refine wp_region_noPanic ?_
          refine region_g 13 (Old w1) (by kernel_rfl) ((Old.refl w1).drew) (fun hS => ?_)
          refine take_w (i := 0) (v := ?_) (some 39) rfl (by kernel_rfl) rfl (fun _ _ _ h => h) (Or.inl ⟨by rfl, ?_⟩) hS ?_
          rotate_left
          · (intro wq hq; go_simp); first | done | with_reducible rfl
          try simp only [Act.put, List.setIfInBounds_toArray, List.set_cons_zero, List.set_cons_succ]
          replace hS := Till.list 0 hS
          refine take_w (i := 4) (v := ?_) (some 43) rfl (by kernel_rfl) rfl (fun _ _ _ h => h) (Or.inl ⟨by rfl, ?_⟩) hS ?_
          rotate_left
          · (intro wq hq; go_simp); first | done | with_reducible rfl
          try simp only [Act.put, List.setIfInBounds_toArray, List.set_cons_zero, List.set_cons_succ]
          replace hS := Till.list 4 hS
          refine take_w (i := 1) (v := ?_) (some 40) rfl (by kernel_rfl) rfl (fun _ _ _ h => h) (Or.inl ⟨by rfl, ?_⟩) hS ?_
          rotate_left
          · (intro wq hq; go_simp); first | done | with_reducible rfl
          try simp only [Act.put, List.setIfInBounds_toArray, List.set_cons_zero, List.set_cons_succ]
          replace hS := Till.list 1 hS
          refine take_w (i := 5) (v := ?_) (some 44) rfl (by kernel_rfl) rfl (fun _ _ _ h => h) (Or.inl ⟨by rfl, ?_⟩) hS ?_
          rotate_left
          · (intro wq hq; go_simp); first | done | with_reducible rfl
          try simp only [Act.put, List.setIfInBounds_toArray, List.set_cons_zero, List.set_cons_succ]
          replace hS := Till.list 5 hS
          refine take_w (i := 2) (v := ?_) (some 41) rfl (by kernel_rfl) rfl (fun _ _ _ h => h) (Or.inl ⟨by rfl, ?_⟩) hS ?_
          rotate_left
          · (intro wq hq; go_simp); first | done | with_reducible rfl
          try simp only [Act.put, List.setIfInBounds_toArray, List.set_cons_zero, List.set_cons_succ]
          replace hS := Till.list 2 hS
          refine take_w (i := 6) (v := ?_) (some 45) rfl (by kernel_rfl) rfl (fun _ _ _ h => h) (Or.inl ⟨by rfl, ?_⟩) hS ?_
          rotate_left
          · (intro wq hq; go_simp); first | done | with_reducible rfl
          try simp only [Act.put, List.setIfInBounds_toArray, List.set_cons_zero, List.set_cons_succ]
          replace hS := Till.list 6 hS
          refine take_g (i := 3) (v := ?_) [3] (some 42) rfl (by kernel_rfl) rfl (fun _ _ _ h => h) (Or.inl ⟨by rfl, ?_⟩) hS ?_
          rotate_left
          · (intro wq hq; have q0 := hq.cell c6; have q1 := hq.cell c5; go_simp); first | done | with_reducible rfl
          try simp only [Act.put, List.setIfInBounds_toArray, List.set_cons_zero, List.set_cons_succ]
          replace hS := Till.list 3 hS
          refine take_g (i := 7) (v := ?_) [7] (some 46) rfl (by kernel_rfl) rfl (fun _ _ _ h => h) (Or.inl ⟨by rfl, ?_⟩) hS ?_
          rotate_left
          · (intro wq hq; have q0 := hq.cell c6; have q1 := hq.cell c5; go_simp); first | done | with_reducible rfl
          try simp only [Act.put, List.setIfInBounds_toArray, List.set_cons_zero, List.set_cons_succ]
          replace hS := Till.list 7 hS
          refine take_g (i := 8) (v := .tuple #[.agg #[], .bool false]) [8] (some 47) rfl (by kernel_rfl) rfl (fun _ _ _ h => h) (Or.inl ⟨by rfl, ?_⟩) hS ?_
          · (intro wq hq; (have q0 := hlk wq hq; go_simp))
          try simp only [Act.put, List.setIfInBounds_toArray, List.set_cons_zero, List.set_cons_succ]
          replace hS := Till.list 8 hS
          refine take_w (i := 9) (v := ?_) (some 38) rfl (by kernel_rfl) rfl (fun _ _ _ h => h) (Or.inl ⟨by rfl, ?_⟩) hS ?_
          rotate_left
          · (intro wq hq; go_simp); first | done | with_reducible rfl
          try simp only [Act.put, List.setIfInBounds_toArray, List.set_cons_zero, List.set_cons_succ]
          replace hS := Till.list 9 hS
          refine take_w (i := 10) (v := ?_) (some 48) rfl (by kernel_rfl) rfl (fun _ _ _ h => h) (Or.inl ⟨by rfl, ?_⟩) hS ?_
          rotate_left
          · (intro wq hq; go_simp); first | done | with_reducible rfl
          try simp only [Act.put, List.setIfInBounds_toArray, List.set_cons_zero, List.set_cons_succ]
          replace hS := Till.list 10 hS
          refine take_w (i := 11) (v := ?_) (some 49) rfl (by kernel_rfl) rfl (fun _ _ _ h => h) (Or.inl ⟨by rfl, ?_⟩) hS ?_
          rotate_left
          · (intro wq hq; go_simp); first | done | with_reducible rfl
          try simp only [Act.put, List.setIfInBounds_toArray, List.set_cons_zero, List.set_cons_succ]
          replace hS := Till.list 11 hS
          refine ready_g (rs := [12]) (by kernel_rfl) (by simp) ?_
          refine AllReadyG.cons rfl (fun Kont hK => ?_) AllReadyG.nil
          go_simp
          refine hK.out _ _ (Or.inr (((hS.get (by kernel_rfl)).alloc _))) (fun hS0 => ?_)
          clear hK Kont
          try simp only [Act.put, List.setIfInBounds_toArray, List.set_cons_zero, List.set_cons_succ]
          clear hS
          have hS := hS0
          clear hS0
          refine ready_g (rs := [13]) (by kernel_rfl) (by simp) ?_
          refine AllReadyG.cons rfl (fun Kont hK => ?_) AllReadyG.nil
          go_simp
          refine hK.out _ _ (Or.inl (by kernel_rfl)) (fun hS0 => ?_)
          clear hK Kont
          try simp only [Act.put, List.setIfInBounds_toArray, List.set_cons_zero, List.set_cons_succ]
          clear hS
          have hS := hS0
          clear hS0
          refine take_w (i := 14) (v := ?_) (some 8) rfl (by kernel_rfl) rfl (fun _ _ _ h => h) (Or.inl ⟨by rfl, ?_⟩) hS ?_
          rotate_left
          · (intro wq hq; go_simp); first | done | with_reducible rfl
          try simp only [Act.put, List.setIfInBounds_toArray, List.set_cons_zero, List.set_cons_succ]
          replace hS := Till.list 14 hS
          refine done_g (by kernel_rfl) (NoPanic.normal ?_) _
          clear hS
          go_wp2_with fail
          refine (HD.out _ (hD1.alloc _).drew (HK1.out.alloc _).drew).mono ?_
          rintro e w2 ⟨v, rfl, hr⟩
          have HR := Lib.hid hr
          clear hr hlk hX c6 c5 hK1 hD1
          go_wp2_with fail
          go_ret
          exact ⟨v, rfl, HR.out⟩
  · have hl' : M.limit.isSome = false := by simpa using hl
    have c7 := hB.cell 7 (v := .bool M.limit.isSome) rfl
    rw [hl'] at c7
    refine wp_region_noPanic ?_
    refine region_g 15 (Ext (World.drew _)) (by kernel_rfl) (Ext.refl _) (fun hS => ?_)
    refine take_w (i := 0) (v := ?_) (some 9) rfl (by kernel_rfl) rfl (fun _ _ _ h => h) (Or.inl ⟨by rfl, ?_⟩) hS ?_
    rotate_left
    · (intro wq hq; go_simp); first | done | with_reducible rfl
    try simp only [Act.put, List.setIfInBounds_toArray, List.set_cons_zero, List.set_cons_succ]
    replace hS := Till.list 0 hS
    refine take_w (i := 1) (v := ?_) (some 10) rfl (by kernel_rfl) rfl (fun _ _ _ h => h) (Or.inl ⟨by rfl, ?_⟩) hS ?_
    rotate_left
    · (intro wq hq; go_simp); first | done | with_reducible rfl
    try simp only [Act.put, List.setIfInBounds_toArray, List.set_cons_zero, List.set_cons_succ]
    replace hS := Till.list 1 hS
    refine take_w (i := 2) (v := ?_) (some 11) rfl (by kernel_rfl) rfl (fun _ _ _ h => h) (Or.inl ⟨by rfl, ?_⟩) hS ?_
    rotate_left
    · (intro wq hq; go_simp); first | done | with_reducible rfl
    try simp only [Act.put, List.setIfInBounds_toArray, List.set_cons_zero, List.set_cons_succ]
    replace hS := Till.list 2 hS
    refine take_n (i := 3) (v := ?_) (some 12) rfl (by kernel_rfl) rfl (fun _ _ _ h => h) (Or.inl ⟨by rfl, ?_⟩) hS ?_
    rotate_left
    · (intro wq hq; have q0 := hq _ _ _ c7; go_simp); first | done | with_reducible rfl
    try simp only [Act.put, List.setIfInBounds_toArray, List.set_cons_zero, List.set_cons_succ]
    replace hS := Till.list 3 hS
    refine take_w (i := 4) (v := ?_) (some 13) rfl (by kernel_rfl) rfl (fun _ _ _ h => h) (Or.inl ⟨by rfl, ?_⟩) hS ?_
    rotate_left
    · (intro wq hq; go_simp); first | done | with_reducible rfl
    try simp only [Act.put, List.setIfInBounds_toArray, List.set_cons_zero, List.set_cons_succ]
    replace hS := Till.list 4 hS
    refine take_w (i := 5) (v := undef) (some 14) rfl (by kernel_rfl) rfl (fun _ _ _ h => h) (Or.inr ⟨by rfl, rfl⟩) hS ?_
    try simp only [Act.put, List.setIfInBounds_toArray, List.set_cons_zero, List.set_cons_succ]
    replace hS := Till.list 5 hS
    refine take_w (i := 9) (v := undef) (some 18) rfl (by kernel_rfl) rfl (fun _ _ _ h => h) (Or.inr ⟨by rfl, rfl⟩) hS ?_
    try simp only [Act.put, List.setIfInBounds_toArray, List.set_cons_zero, List.set_cons_succ]
    replace hS := Till.list 9 hS
    refine take_w (i := 6) (v := undef) (some 15) rfl (by kernel_rfl) rfl (fun _ _ _ h => h) (Or.inr ⟨by rfl, rfl⟩) hS ?_
    try simp only [Act.put, List.setIfInBounds_toArray, List.set_cons_zero, List.set_cons_succ]
    replace hS := Till.list 6 hS
    refine take_w (i := 10) (v := undef) (some 19) rfl (by kernel_rfl) rfl (fun _ _ _ h => h) (Or.inr ⟨by rfl, rfl⟩) hS ?_
    try simp only [Act.put, List.setIfInBounds_toArray, List.set_cons_zero, List.set_cons_succ]
    replace hS := Till.list 10 hS
    refine take_w (i := 7) (v := undef) (some 16) rfl (by kernel_rfl) rfl (fun _ _ _ h => h) (Or.inr ⟨by rfl, rfl⟩) hS ?_
    try simp only [Act.put, List.setIfInBounds_toArray, List.set_cons_zero, List.set_cons_succ]
    replace hS := Till.list 7 hS
    refine take_w (i := 11) (v := undef) (some 20) rfl (by kernel_rfl) rfl (fun _ _ _ h => h) (Or.inr ⟨by rfl, rfl⟩) hS ?_
    try simp only [Act.put, List.setIfInBounds_toArray, List.set_cons_zero, List.set_cons_succ]
    replace hS := Till.list 11 hS
    refine take_w (i := 8) (v := undef) (some 17) rfl (by kernel_rfl) rfl (fun _ _ _ h => h) (Or.inr ⟨by rfl, rfl⟩) hS ?_
    try simp only [Act.put, List.setIfInBounds_toArray, List.set_cons_zero, List.set_cons_succ]
    replace hS := Till.list 8 hS
    refine take_w (i := 12) (v := undef) (some 21) rfl (by kernel_rfl) rfl (fun _ _ _ h => h) (Or.inr ⟨by rfl, rfl⟩) hS ?_
    try simp only [Act.put, List.setIfInBounds_toArray, List.set_cons_zero, List.set_cons_succ]
    replace hS := Till.list 12 hS
    refine take_w (i := 13) (v := undef) (some 22) rfl (by kernel_rfl) rfl (fun _ _ _ h => h) (Or.inr ⟨by rfl, rfl⟩) hS ?_
    try simp only [Act.put, List.setIfInBounds_toArray, List.set_cons_zero, List.set_cons_succ]
    replace hS := Till.list 13 hS
    refine take_w (i := 14) (v := ?_) (some 23) rfl (by kernel_rfl) rfl (fun _ _ _ h => h) (Or.inl ⟨by rfl, ?_⟩) hS ?_
    rotate_left
    · (intro wq hq; go_simp); first | done | with_reducible rfl
    try simp only [Act.put, List.setIfInBounds_toArray, List.set_cons_zero, List.set_cons_succ]
    replace hS := Till.list 14 hS
    refine done_g (by kernel_rfl) (NoPanic.normal ?_) _
    clear hS
    cases hde : M.dead with
    | true =>
      have c9 := hB.cell 9 (v := .bool M.dead) rfl
      rw [hde] at c9
      have hs := stepD_dead (M := M) (.inl hde)
      have hMM : ({ M with dead := true } : DK) = M := by rw [← hde]
      rw [hs] at hdead
      have HD := Lib.hid (hdead rfl)
      clear hfail hdo hdead
      go_wp2_with fail
      go_ret
      exact ⟨34, rfl, HD.out _ (by rw [hMM]; exact h.drew) (Kp.refl F w).drew⟩
    | false =>
      have c9 := hB.cell 9 (v := .bool M.dead) rfl
      rw [hde] at c9
      have hno : ¬ (M.dead = true ∨ ∃ n, M.limit = some n ∧ n ≤ M.taken) := by
        rintro (x | ⟨m, hm, hm2⟩)
        · rw [hde] at x; cases x
        · first | (rw [hn] at hm; cases hm; exact hl hm2) | (exact hl (by rw [hm]; rfl))
      have f5 := hB.free 5
      have c5a := hB.cell 5 (v := .int .i64 (M.taken : Int)) rfl
      have hMt : (M.taken : Int) ≤ 1000 := by omega
      go_wp2_with fail
      have hD1 := h.took.drew
      have hK1 : Kp F w (w.setCell ⟨p, 5, none⟩ (.int .i64 ((M.taken : Int) + 1))).drew := ((Kp.refl F w).setCell (.inl h.foot.1) _).drew
      generalize (w.setCell ⟨p, 5, none⟩ (.int .i64 ((M.taken : Int) + 1))).drew = w1 at hD1 hK1 ⊢
      clear hB c9 c7 f5 c5a
      have hX := hD1.fails
      have c6 := hD1.blk.cell 6 (v := .map g.bX) rfl
      have c5 := hD1.blk.cell 5 (v := .int .i64 ((M.taken + 1 : Nat) : Int)) rfl
      rw [Int.natCast_succ] at c5
      have hlk := fun wq (hq : Old w1 wq) => (hX.move (F' := F) (w' := wq) (rl' := g.rl) (fun b h1 h2 h3 => ⟨hq.block b h3, h1, h2⟩)).look (x := (M.taken : Int) + 1) (by omega) (by omega)
      have HK1 := Lib.hid hK1
      by_cases hfa : ((M.taken + 1 : Nat) : Int) ∈ M.fails
      · have hs2 := stepD_fail hno hfa
        rw [hs2] at hdo hfail hdead
        clear hdo hdead
        have hfa' : decide ((M.taken : Int) + 1 ∈ M.fails) = true := by rw [decide_eq_true_iff, ← Int.natCast_succ]; exact hfa
        simp only [hfa'] at hlk
        have HD := Lib.hid (hfail rfl)
        clear hfail
        refine wp_region_noPanic ?_
        refine region_g 13 (Old w1) (by kernel_rfl) ((Old.refl w1).drew) (fun hS => ?_)
        refine take_w (i := 0) (v := ?_) (some 39) rfl (by kernel_rfl) rfl (fun _ _ _ h => h) (Or.inl ⟨by rfl, ?_⟩) hS ?_
        rotate_left
        · (intro wq hq; go_simp); first | done | with_reducible rfl
        try simp only [Act.put, List.setIfInBounds_toArray, List.set_cons_zero, List.set_cons_succ]
        replace hS := Till.list 0 hS
        refine take_w (i := 4) (v := ?_) (some 43) rfl (by kernel_rfl) rfl (fun _ _ _ h => h) (Or.inl ⟨by rfl, ?_⟩) hS ?_
        rotate_left
        · (intro wq hq; go_simp); first | done | with_reducible rfl
        try simp only [Act.put, List.setIfInBounds_toArray, List.set_cons_zero, List.set_cons_succ]
        replace hS := Till.list 4 hS
        refine take_w (i := 1) (v := ?_) (some 40) rfl (by kernel_rfl) rfl (fun _ _ _ h => h) (Or.inl ⟨by rfl, ?_⟩) hS ?_
        rotate_left
        · (intro wq hq; go_simp); first | done | with_reducible rfl
        try simp only [Act.put, List.setIfInBounds_toArray, List.set_cons_zero, List.set_cons_succ]
        replace hS := Till.list 1 hS
        refine take_w (i := 5) (v := ?_) (some 44) rfl (by kernel_rfl) rfl (fun _ _ _ h => h) (Or.inl ⟨by rfl, ?_⟩) hS ?_
        rotate_left
        · (intro wq hq; go_simp); first | done | with_reducible rfl
        try simp only [Act.put, List.setIfInBounds_toArray, List.set_cons_zero, List.set_cons_succ]
        replace hS := Till.list 5 hS
        refine take_w (i := 2) (v := ?_) (some 41) rfl (by kernel_rfl) rfl (fun _ _ _ h => h) (Or.inl ⟨by rfl, ?_⟩) hS ?_
        rotate_left
        · (intro wq hq; go_simp); first | done | with_reducible rfl
        try simp only [Act.put, List.setIfInBounds_toArray, List.set_cons_zero, List.set_cons_succ]
        replace hS := Till.list 2 hS
        refine take_w (i := 6) (v := ?_) (some 45) rfl (by kernel_rfl) rfl (fun _ _ _ h => h) (Or.inl ⟨by rfl, ?_⟩) hS ?_
        rotate_left
        · (intro wq hq; go_simp); first | done | with_reducible rfl
        try simp only [Act.put, List.setIfInBounds_toArray, List.set_cons_zero, List.set_cons_succ]
        replace hS := Till.list 6 hS
        refine take_g (i := 3) (v := ?_) [3] (some 42) rfl (by kernel_rfl) rfl (fun _ _ _ h => h) (Or.inl ⟨by rfl, ?_⟩) hS ?_
        rotate_left
        · (intro wq hq; have q0 := hq.cell c6; have q1 := hq.cell c5; go_simp); first | done | with_reducible rfl
        try simp only [Act.put, List.setIfInBounds_toArray, List.set_cons_zero, List.set_cons_succ]
        replace hS := Till.list 3 hS
        refine take_g (i := 7) (v := ?_) [7] (some 46) rfl (by kernel_rfl) rfl (fun _ _ _ h => h) (Or.inl ⟨by rfl, ?_⟩) hS ?_
        rotate_left
        · (intro wq hq; have q0 := hq.cell c6; have q1 := hq.cell c5; go_simp); first | done | with_reducible rfl
        try simp only [Act.put, List.setIfInBounds_toArray, List.set_cons_zero, List.set_cons_succ]
        replace hS := Till.list 7 hS
        refine take_g (i := 8) (v := .tuple #[.agg #[], .bool true]) [8] (some 47) rfl (by kernel_rfl) rfl (fun _ _ _ h => h) (Or.inl ⟨by rfl, ?_⟩) hS ?_
        · (intro wq hq; (have q0 := hlk wq hq; go_simp))
        try simp only [Act.put, List.setIfInBounds_toArray, List.set_cons_zero, List.set_cons_succ]
        replace hS := Till.list 8 hS
        refine take_w (i := 9) (v := ?_) (some 38) rfl (by kernel_rfl) rfl (fun _ _ _ h => h) (Or.inl ⟨by rfl, ?_⟩) hS ?_
        rotate_left
        · (intro wq hq; go_simp); first | done | with_reducible rfl
        try simp only [Act.put, List.setIfInBounds_toArray, List.set_cons_zero, List.set_cons_succ]
        replace hS := Till.list 9 hS
        refine take_w (i := 10) (v := ?_) (some 48) rfl (by kernel_rfl) rfl (fun _ _ _ h => h) (Or.inl ⟨by rfl, ?_⟩) hS ?_
        rotate_left
        · (intro wq hq; go_simp); first | done | with_reducible rfl
        try simp only [Act.put, List.setIfInBounds_toArray, List.set_cons_zero, List.set_cons_succ]
        replace hS := Till.list 10 hS
        refine take_w (i := 11) (v := ?_) (some 49) rfl (by kernel_rfl) rfl (fun _ _ _ h => h) (Or.inl ⟨by rfl, ?_⟩) hS ?_
        rotate_left
        · (intro wq hq; go_simp); first | done | with_reducible rfl
        try simp only [Act.put, List.setIfInBounds_toArray, List.set_cons_zero, List.set_cons_succ]
        replace hS := Till.list 11 hS
        refine ready_g (rs := [12]) (by kernel_rfl) (by simp) ?_
        refine AllReadyG.cons rfl (fun Kont hK => ?_) AllReadyG.nil
        go_simp
        refine hK.out _ _ (Or.inr (((hS.get (by kernel_rfl)).alloc _))) (fun hS0 => ?_)
        clear hK Kont
        try simp only [Act.put, List.setIfInBounds_toArray, List.set_cons_zero, List.set_cons_succ]
        clear hS
        have hS := hS0
        clear hS0
        refine ready_g (rs := [13]) (by kernel_rfl) (by simp) ?_
        refine AllReadyG.cons rfl (fun Kont hK => ?_) AllReadyG.nil
        go_simp
        refine hK.out _ _ (Or.inl (by kernel_rfl)) (fun hS0 => ?_)
        clear hK Kont
        try simp only [Act.put, List.setIfInBounds_toArray, List.set_cons_zero, List.set_cons_succ]
        clear hS
        have hS := hS0
        clear hS0
        refine take_w (i := 14) (v := ?_) (some 8) rfl (by kernel_rfl) rfl (fun _ _ _ h => h) (Or.inl ⟨by rfl, ?_⟩) hS ?_
        rotate_left
        · (intro wq hq; go_simp); first | done | with_reducible rfl
        try simp only [Act.put, List.setIfInBounds_toArray, List.set_cons_zero, List.set_cons_succ]
        replace hS := Till.list 14 hS
        refine done_g (by kernel_rfl) (NoPanic.normal ?_) _
        clear hS
        go_wp2_with fail
        refine (HD.out _ (hD1.alloc _).drew (HK1.out.alloc _).drew).mono ?_
        rintro e w2 ⟨rfl, hr⟩
        have HR := Lib.hid hr
        clear hr hlk hX c6 c5 hK1 hD1
        go_wp2_with fail
        go_ret
        exact ⟨33, rfl, HR.out⟩
      · have hs2 := stepD_ok hno hfa
        rw [hs2] at hdo hfail hdead
        clear hfail hdead
        have hfa' : decide ((M.taken : Int) + 1 ∈ M.fails) = false := by rw [decide_eq_false_iff_not, ← Int.natCast_succ]; exact hfa
        simp only [hfa'] at hlk
        have HD := Lib.hid (hdo rfl)
        clear hdo
        refine wp_region_noPanic ?_
        refine region_g 13 (Old w1) (by kernel_rfl) ((Old.refl w1).drew) (fun hS => ?_)
        refine take_w (i := 0) (v := ?_) (some 39) rfl (by kernel_rfl) rfl (fun _ _ _ h => h) (Or.inl ⟨by rfl, ?_⟩) hS ?_
        rotate_left
        · (intro wq hq; go_simp); first | done | with_reducible rfl
        try simp only [Act.put, List.setIfInBounds_toArray, List.set_cons_zero, List.set_cons_succ]
        replace hS := Till.list 0 hS
        refine take_w (i := 4) (v := ?_) (some 43) rfl (by kernel_rfl) rfl (fun _ _ _ h => h) (Or.inl ⟨by rfl, ?_⟩) hS ?_
        rotate_left
        · (intro wq hq; go_simp); first | done | with_reducible rfl
        try simp only [Act.put, List.setIfInBounds_toArray, List.set_cons_zero, List.set_cons_succ]
        replace hS := Till.list 4 hS
        refine take_w (i := 1) (v := ?_) (some 40) rfl (by kernel_rfl) rfl (fun _ _ _ h => h) (Or.inl ⟨by rfl, ?_⟩) hS ?_
        rotate_left
        · (intro wq hq; go_simp); first | done | with_reducible rfl
        try simp only [Act.put, List.setIfInBounds_toArray, List.set_cons_zero, List.set_cons_succ]
        replace hS := Till.list 1 hS
        refine take_w (i := 5) (v := ?_) (some 44) rfl (by kernel_rfl) rfl (fun _ _ _ h => h) (Or.inl ⟨by rfl, ?_⟩) hS ?_
        rotate_left
        · (intro wq hq; go_simp); first | done | with_reducible rfl
        try simp only [Act.put, List.setIfInBounds_toArray, List.set_cons_zero, List.set_cons_succ]
        replace hS := Till.list 5 hS
        refine take_w (i := 2) (v := ?_) (some 41) rfl (by kernel_rfl) rfl (fun _ _ _ h => h) (Or.inl ⟨by rfl, ?_⟩) hS ?_
        rotate_left
        · (intro wq hq; go_simp); first | done | with_reducible rfl
        try simp only [Act.put, List.setIfInBounds_toArray, List.set_cons_zero, List.set_cons_succ]
        replace hS := Till.list 2 hS
        refine take_w (i := 6) (v := ?_) (some 45) rfl (by kernel_rfl) rfl (fun _ _ _ h => h) (Or.inl ⟨by rfl, ?_⟩) hS ?_
        rotate_left
        · (intro wq hq; go_simp); first | done | with_reducible rfl
        try simp only [Act.put, List.setIfInBounds_toArray, List.set_cons_zero, List.set_cons_succ]
        replace hS := Till.list 6 hS
        refine take_g (i := 3) (v := ?_) [3] (some 42) rfl (by kernel_rfl) rfl (fun _ _ _ h => h) (Or.inl ⟨by rfl, ?_⟩) hS ?_
        rotate_left
        · (intro wq hq; have q0 := hq.cell c6; have q1 := hq.cell c5; go_simp); first | done | with_reducible rfl
        try simp only [Act.put, List.setIfInBounds_toArray, List.set_cons_zero, List.set_cons_succ]
        replace hS := Till.list 3 hS
        refine take_g (i := 7) (v := ?_) [7] (some 46) rfl (by kernel_rfl) rfl (fun _ _ _ h => h) (Or.inl ⟨by rfl, ?_⟩) hS ?_
        rotate_left
        · (intro wq hq; have q0 := hq.cell c6; have q1 := hq.cell c5; go_simp); first | done | with_reducible rfl
        try simp only [Act.put, List.setIfInBounds_toArray, List.set_cons_zero, List.set_cons_succ]
        replace hS := Till.list 7 hS
        refine take_g (i := 8) (v := .tuple #[.agg #[], .bool false]) [8] (some 47) rfl (by kernel_rfl) rfl (fun _ _ _ h => h) (Or.inl ⟨by rfl, ?_⟩) hS ?_
        · (intro wq hq; (have q0 := hlk wq hq; go_simp))
        try simp only [Act.put, List.setIfInBounds_toArray, List.set_cons_zero, List.set_cons_succ]
        replace hS := Till.list 8 hS
        refine take_w (i := 9) (v := ?_) (some 38) rfl (by kernel_rfl) rfl (fun _ _ _ h => h) (Or.inl ⟨by rfl, ?_⟩) hS ?_
        rotate_left
        · (intro wq hq; go_simp); first | done | with_reducible rfl
        try simp only [Act.put, List.setIfInBounds_toArray, List.set_cons_zero, List.set_cons_succ]
        replace hS := Till.list 9 hS
        refine take_w (i := 10) (v := ?_) (some 48) rfl (by kernel_rfl) rfl (fun _ _ _ h => h) (Or.inl ⟨by rfl, ?_⟩) hS ?_
        rotate_left
        · (intro wq hq; go_simp); first | done | with_reducible rfl
        try simp only [Act.put, List.setIfInBounds_toArray, List.set_cons_zero, List.set_cons_succ]
        replace hS := Till.list 10 hS
        refine take_w (i := 11) (v := ?_) (some 49) rfl (by kernel_rfl) rfl (fun _ _ _ h => h) (Or.inl ⟨by rfl, ?_⟩) hS ?_
        rotate_left
        · (intro wq hq; go_simp); first | done | with_reducible rfl
        try simp only [Act.put, List.setIfInBounds_toArray, List.set_cons_zero, List.set_cons_succ]
        replace hS := Till.list 11 hS
        refine ready_g (rs := [12]) (by kernel_rfl) (by simp) ?_
        refine AllReadyG.cons rfl (fun Kont hK => ?_) AllReadyG.nil
        go_simp
        refine hK.out _ _ (Or.inr (((hS.get (by kernel_rfl)).alloc _))) (fun hS0 => ?_)
        clear hK Kont
        try simp only [Act.put, List.setIfInBounds_toArray, List.set_cons_zero, List.set_cons_succ]
        clear hS
        have hS := hS0
        clear hS0
        refine ready_g (rs := [13]) (by kernel_rfl) (by simp) ?_
        refine AllReadyG.cons rfl (fun Kont hK => ?_) AllReadyG.nil
        go_simp
        refine hK.out _ _ (Or.inl (by kernel_rfl)) (fun hS0 => ?_)
        clear hK Kont
        try simp only [Act.put, List.setIfInBounds_toArray, List.set_cons_zero, List.set_cons_succ]
        clear hS
        have hS := hS0
        clear hS0
        refine take_w (i := 14) (v := ?_) (some 8) rfl (by kernel_rfl) rfl (fun _ _ _ h => h) (Or.inl ⟨by rfl, ?_⟩) hS ?_
        rotate_left
        · (intro wq hq; go_simp); first | done | with_reducible rfl
        try simp only [Act.put, List.setIfInBounds_toArray, List.set_cons_zero, List.set_cons_succ]
        replace hS := Till.list 14 hS
        refine done_g (by kernel_rfl) (NoPanic.normal ?_) _
        clear hS
        go_wp2_with fail
        refine (HD.out _ (hD1.alloc _).drew (HK1.out.alloc _).drew).mono ?_
        rintro e w2 ⟨v, rfl, hr⟩
        have HR := Lib.hid hr
        clear hr hlk hX c6 c5 hK1 hD1
        go_wp2_with fail
        go_ret
        exact ⟨v, rfl, HR.out⟩
end Go.Proofs.Ytlagmjdldplblaa
/- A disk in memory: what becomes of it when a name changes, a file's bytes, a file is made, the names are kept. -/
namespace Go.Proofs.Ytlagmjdldplblaa
open Go.ChangeShapes Go.WideShapes Go.ChangeAt Go.RowKit Go.WideMaps Go.Maps
set_option linter.unusedVariables false
set_option maxRecDepth 4000

theorem ownsMap_tight {H : Type} {P : Program} {kt : TypeId} {R : Value → Option (DataW H × List MemPlace)} {w : World} {b n : Nat} {D : DataW H} (h : w.ownsMap P kt R b n D) : w.ownsMap P kt R b (Maps.size D) D := by
  obtain ⟨es, clock, hb, F, hs, rfl⟩ := h
  exact ⟨es, clock, hb, F, by simp [Maps.size, length_sorted], rfl⟩
theorem ownsMap_len {kt : TypeId} {R : Value → Option (DataW Value × List MemPlace)} {w : World} {b n : Nat} {og : Nat → Or8} {l : List Nm8} (h : w.ownsMap Try.prog kt R b n (nmD og l)) : w.ownsMap Try.prog kt R b l.length (nmD og l) := by
  have := ownsMap_tight h
  rwa [nm_size] at this
section
variable {g : G8} {k : Nat} {w w' : World} {F F' : Nat → Prop} {p : Nat} {M : DK}
/-- unlike files have unlike keys -/
theorem DD.key (h : DD g k w F p M) (hk : k ≤ 1000) {f : Nat} (hf : f < M.files.length) : keyOf Try.prog 83 (oV (g.og f)) = some (kO (g.og f)) := by
  obtain ⟨h1, h2, h3⟩ := h.org f hf
  have := h.pl.taken
  exact keyO h3 h1 (by omega)
theorem DD.keyNe (h : DD g k w F p M) (hk : k ≤ 1000) {f f' : Nat} (hf : f < M.files.length) (hf' : f' < M.files.length) (hne : f ≠ f') : kO (g.og f) ≠ kO (g.og f') := fun e => by
  have h1 := h.key hk hf
  have h2 := h.key hk hf'
  rw [e] at h1
  exact hne (h.inj f f' hf hf' (kO_inj h1 h2))
theorem ok7_grow (h : Ok7 M) : Ok7 { M with files := M.files ++ [([], 0)] } := by
  refine ⟨h.quota, h.sort, h.keep, ?_, ?_, ?_, ?_, h.one⟩
  · intro n hn; have := h.place n hn; simp; omega
  · intro n hn; have := h.kplace n hn; simp; omega
  · intro c hc n hn; have := h.cplace c hc n hn; simp; omega
  · intro x hx
    rcases List.mem_append.1 hx with hx | hx
    · exact h.safe x hx
    · rw [List.mem_singleton.1 hx]; simp
theorem flN_grow {f : Nat} (h : f < M.files.length) : flN { M with files := M.files ++ [([], 0)] } f = flN M f := by simp [flN, List.getD, List.getElem?_append_left h]
theorem flN_new : flN { M with files := M.files ++ [([], 0)] } M.files.length = ([], 0) := by simp [flN]
theorem ok7_put (h : Ok7 M) (f : Nat) (x : Fl8) (hx : x.2 ≤ x.1.length) : Ok7 (putD M f x) := by
  have hl : (putD M f x).files.length = M.files.length := by show (M.files.set f x).length = _; simp
  refine ⟨h.quota, h.sort, h.keep, by rw [hl]; exact h.place, by rw [hl]; exact h.kplace, by rw [hl]; exact h.cplace, ?_, h.one⟩
  intro y hy
  rcases List.mem_or_eq_of_mem_set hy with hy | rfl
  · exact h.safe y hy
  · exact hx
/-- roles of blocks: those that are new are for r -/
def rlN (g : G8) (w : World) (r : Nat) : Nat → Nat := fun b => if b < w.heap.size then g.rl b else r
theorem rlN_old {r b : Nat} (h : b < w.heap.size) : rlN g w r b = g.rl b := if_pos h
theorem rlN_new {r b : Nat} (h : w.heap.size ≤ b) : rlN g w r b = r := if_neg (by omega)
/-- a name has changed -/
theorem DD.changed (h : DD g k w F p M) (c : PC8) (hc : g.lv c.f) (hok : Ok7 (changeD M (toCh c))) (hfr : c.frm = noN ∨ okName c.frm = true) (hto : c.to = noN ∨ okName c.to = true) {v' : Value}
    (hn : w'.ownsMap Try.prog 9 eO g.bN (doneN M.names (toCh c)).length (nmD g.og (doneN M.names (toCh c)))) (hv : OS 4 w' 0 v' (g.pc.length + 1) (chCells g.og (g.pc ++ [c])))
    (hb : Bk w' p (dC { g with ch := v' } M) 71) (hob : ∀ b, v'.ownBlock = some b → g.ch.ownBlock = some b ∨ (w.heap.size ≤ b ∧ F b)) (he : ∀ b, F b → b < w.heap.size → g.rl b ≠ 0 → g.rl b ≠ 2 → g.rl b ≠ 5 → w'.heap[b]? = w.heap[b]?) :
    DD { g with ch := v', pc := g.pc ++ [c], rl := rlN g w 5 } (k + 1) w' F p (changeD M (toCh c)) := by
  have hw : ∀ (r b : Nat), F b → g.rl b = r → r ≠ 0 → r ≠ 2 → r ≠ 5 → b < w.heap.size → w'.heap[b]? = w.heap[b]? ∧ F b ∧ rlN g w 5 b = r := fun r b h1 h2 h3 h4 h5 h6 => ⟨he b h1 h6 (by omega) (by omega) (by omega), h1, by rw [rlN_old h6, h2]⟩
  obtain ⟨p1, p2, p3, p4, p5, p6, p7, p8, p9, p10, p11⟩ := h.pl
  have hfl : (changeD M (toCh c)).files = M.files := rfl
  have hcw : ∀ n, (toCh c).to = some n → n = (c.to, c.f) ∧ okName c.to = true := by
    intro n hn
    unfold toCh at hn
    by_cases e : c.to = noN
    · simp [e] at hn
    · simp only [e, if_false, Option.some.injEq] at hn
      exact ⟨hn.symm, hto.resolve_left e⟩
  refine ⟨hok, ⟨by show M.taken ≤ _; omega, by show M.kept.length + (M.chs ++ [_]).length ≤ _; simp; omega, fun x hx => by have := p3 x hx; omega, p4, p5, ?_, p7, ?_, p9, p10, by have := doneN_len M.names (toCh c); show (doneN M.names (toCh c)).length ≤ _; omega⟩, h.org, h.inj, hb, ?_, ⟨hn, h.names.2.1, ?_⟩, ?_, ?_, ?_, by have := h.fsize; show Maps.size g.DF ≤ _; omega, ?_, ?_, ?_, ?_, h.full⟩
  · intro n hn
    rcases doneN_mem hn with hn | hn
    · exact p6 n hn
    · obtain ⟨rfl, e⟩ := hcw n hn; exact e
  · intro d hd
    rcases List.mem_append.1 hd with hd | hd
    · exact p8 d hd
    · rw [List.mem_singleton.1 hd]
      refine ⟨fun s hs => ?_, fun n hn => by obtain ⟨rfl, e⟩ := hcw n hn; exact e⟩
      unfold toCh at hs
      by_cases e : c.frm = noN
      · simp [e] at hs
      · simp only [e, if_false, Option.some.injEq] at hs
        subst hs; exact hfr.resolve_left e
  · exact ⟨h.foot.1, by show rlN g w 5 p = 0; rw [rlN_old h.blk.lt, h.foot.2]⟩
  · show rlN g w 5 g.bN = 2; rw [rlN_old h.names.1.lt, h.names.2.2]
  · exact h.kept.move (fun b h1 h2 h3 => hw 3 b h1 h2 (by omega) (by omega) (by omega) h3)
  · exact h.fails.move (fun b h1 h2 h3 => hw 4 b h1 h2 (by omega) (by omega) (by omega) h3)
  · obtain ⟨h1, h2, h3⟩ := h.files
    obtain ⟨e1, e2, e3⟩ := hw 1 _ h2 h3 (by omega) (by omega) (by omega) h1.lt
    exact ⟨ownsMap_same h1 e1, e2, e3⟩
  · intro f hf
    rcases hf with ⟨n, hn, e⟩ | hf | ⟨d, hd, n, hn, e⟩
    · rcases doneN_mem hn with hn | hn
      · exact h.live f (.inl ⟨n, hn, e⟩)
      · obtain ⟨rfl, -⟩ := hcw n hn; rw [← e]; exact hc
    · exact h.live f (.inr (.inl hf))
    · rcases List.mem_append.1 hd with hd | hd
      · exact h.live f (.inr (.inr ⟨d, hd, n, hn, e⟩))
      · rw [List.mem_singleton.1 hd] at hn
        obtain ⟨rfl, -⟩ := hcw n hn; rw [← e]; exact hc
  · intro f hf
    have hx := h.each f hf
    exact ⟨hx.place, hx.has, hx.at_, hx.data.same8 (fun b hb hl => (hw _ b (hx.own b hb).1 (hx.own b hb).2 (by omega) (by omega) (by omega) hl).1), fun b hb => (hw _ b (hx.own b hb).1 (hx.own b hb).2 (by omega) (by omega) (by omega) (hx.data.low0 hb)).2⟩
  · refine ⟨(show M.chs ++ [toCh c] = (g.pc ++ [c]).map toCh by rw [h.chs.1, List.map_append]; rfl), fun d hd => ?_⟩
    rcases List.mem_append.1 hd with hd | hd
    · exact h.chs.2 d hd
    · rw [List.mem_singleton.1 hd]; exact (h.each c.f hc).place
  · refine ⟨by rw [List.length_append]; exact hv, fun b hb => ?_⟩
    rcases hob b hb with hb | ⟨h1, h2⟩
    · obtain ⟨e1, e2⟩ := h.chv.2 b hb
      exact ⟨e1, by show rlN g w 5 b = 5; rw [rlN_old (h.chv.1.low0 hb), e2]⟩
    · exact ⟨h2, rlN_new h1⟩
/-- a file's bytes, or how many are safe, have changed -/
theorem DD.fileSet (h : DD g k w F p M) (hk : k ≤ 1000) {f : Nat} (hf : g.lv f) (x : Fl8) (hx : x.2 ≤ x.1.length) (q : Nat) (hq : k ≤ q) (hlen : x.1.length ≤ 1000 * q) (hby : ∀ z ∈ x.1, 0 ≤ z ∧ z ≤ 255) {v' : Value}
    (hm : w'.ownsMap Try.prog 83 eF g.bF (Maps.size g.DF + 1) (g.DF.put (kO (g.og f)) (.held (fileV v' x.2)))) (hv : OW w' 0 v' x.1) (hob : ∀ b, v'.ownBlock = some b → (g.sv f).ownBlock = some b ∨ (w.heap.size ≤ b ∧ F b))
    (he : ∀ b, F b → b < w.heap.size → g.rl b ≠ 1 → g.rl b ≠ 6 + f → w'.heap[b]? = w.heap[b]?) :
    DD { g with sv := fun j => if j = f then v' else g.sv j, DF := g.DF.put (kO (g.og f)) (.held (fileV v' x.2)), rl := rlN g w (6 + f) } q w' F p (putD M f x) := by
  have hw : ∀ (r b : Nat), F b → g.rl b = r → r ≠ 1 → r ≠ 6 + f → b < w.heap.size → w'.heap[b]? = w.heap[b]? ∧ F b ∧ rlN g w (6 + f) b = r := fun r b h1 h2 h3 h4 h6 => ⟨he b h1 h6 (by omega) (by omega), h1, by rw [rlN_old h6, h2]⟩
  obtain ⟨p1, p2, p3, p4, p5, p6, p7, p8, p9, p10, p11⟩ := h.pl
  have hfx := h.each f hf
  have hfl : (putD M f x).files.length = M.files.length := by show (M.files.set f x).length = _; simp
  have htidy := h.files.1.tidy law8O
  have hkl := law8O.key (h.key hk hfx.place)
  refine ⟨ok7_put h.ok f x hx, ⟨by show M.taken ≤ _; omega, by show M.kept.length + M.chs.length ≤ _; omega, ?_, ?_, p5, p6, p7, p8, p9, p10, by show M.names.length ≤ _; omega⟩, ?_, ?_, (hw 0 p h.foot.1 h.foot.2 (by omega) (by omega) h.blk.lt).1.trans h.blk, ⟨h.foot.1, by show rlN g w _ p = 0; rw [rlN_old h.blk.lt, h.foot.2]⟩, ?_, ?_, ?_, ⟨ownsMap_tight hm, h.files.2.1, ?_⟩, ?_, h.live, ?_, ⟨h.chs.1, ?_⟩, ?_, fun l hl => ?_⟩
  · intro y hy
    rcases List.mem_or_eq_of_mem_set hy with hy | rfl
    · have := p3 y hy; omega
    · exact hlen
  · intro y hy
    rcases List.mem_or_eq_of_mem_set hy with hy | rfl
    · exact p4 y hy
    · exact hby
  · intro j hj; rw [hfl] at hj; exact h.org j hj
  · intro j j' hj hj'; rw [hfl] at hj hj'; exact h.inj j j' hj hj'
  · exact h.names.move (fun h1 h2 h3 => hw 2 _ h1 h2 (by omega) (by omega) h3)
  · exact h.kept.move (fun b h1 h2 h3 => hw 3 b h1 h2 (by omega) (by omega) h3)
  · exact h.fails.move (fun b h1 h2 h3 => hw 4 b h1 h2 (by omega) (by omega) h3)
  · show rlN g w _ g.bF = 1; rw [rlN_old h.files.1.lt, h.files.2.2]
  · show Maps.size (g.DF.put _ _) ≤ q
    rw [size_put htidy, hfx.has, if_pos rfl]; have := h.fsize; omega
  · intro j hj
    have hx' := h.each j hj
    by_cases e : j = f
    · subst e
      have hs : flN (putD M j x) j = x := flN_put_same hfx.place
      refine ⟨by rw [hfl]; exact hx'.place, has_put_same htidy.isMap hkl _, fun z => ?_, ?_, fun b hb => ?_⟩
      · show (g.DF.put _ _).atKey _ _ = DataW.held (fileV (if j = j then v' else g.sv j) (flN (putD M j x) j).2)
        rw [if_pos rfl, hs]; exact atKey_put_same htidy.isMap hkl _ z
      · show OW w' 0 (if j = j then v' else g.sv j) _
        rw [if_pos rfl, hs]; exact hv
      · have hb' : v'.ownBlock = some b := by have : (if j = j then v' else g.sv j).ownBlock = some b := hb; rwa [if_pos rfl] at this
        rcases hob b hb' with hb' | ⟨h1, h2⟩
        · obtain ⟨e1, e2⟩ := hx'.own b hb'
          exact ⟨e1, by show rlN g w _ b = _; rw [rlN_old (hx'.data.low0 hb'), e2]⟩
        · exact ⟨h2, rlN_new h1⟩
    · have hs : flN (putD M f x) j = flN M j := flN_put_other (fun e2 => e e2.symm)
      have hne := h.keyNe hk hx'.place hfx.place e
      refine ⟨by rw [hfl]; exact hx'.place, (has_put_other hne _).trans hx'.has, fun z => ?_, ?_, fun b hb => ?_⟩
      · show (g.DF.put _ _).atKey _ _ = DataW.held (fileV (if j = f then v' else g.sv j) (flN (putD M f x) j).2)
        rw [if_neg e, hs]; exact (atKey_put_other hne _ z).trans (hx'.at_ z)
      · show OW w' 0 (if j = f then v' else g.sv j) _
        rw [if_neg e, hs]
        exact hx'.data.same8 (fun b hb hl => (hw _ b (hx'.own b hb).1 (hx'.own b hb).2 (by omega) (by omega) hl).1)
      · have hb' : (g.sv j).ownBlock = some b := by have : (if j = f then v' else g.sv j).ownBlock = some b := hb; rwa [if_neg e] at this
        exact (hw _ b (hx'.own b hb').1 (hx'.own b hb').2 (by omega) (by omega) (hx'.data.low0 hb')).2
  · intro c hc; rw [hfl]; exact h.chs.2 c hc
  · exact ⟨h.chv.1.same8 (fun b hb hl => (hw 5 b (h.chv.2 b hb).1 (h.chv.2 b hb).2 (by omega) (by omega) hl).1), fun b hb => (hw 5 b (h.chv.2 b hb).1 (h.chv.2 b hb).2 (by omega) (by omega) (h.chv.1.low0 hb)).2⟩
  · by_cases e : l = kO (g.og f)
    · exact ⟨f, hf, e⟩
    · exact h.full l ((has_put_other e _).symm.trans hl)
/-- a file is made: it has no name yet -/
theorem DD.fileNew (h : DD g k w F p M) (hk : k ≤ 1000) (o : Or8) (ho0 : 0 ≤ o.1) (ho1 : o.1 ≤ (M.taken : Int)) (ho2 : o.2.size ≤ 1000) (hnew : ∀ f, f < M.files.length → g.og f ≠ o)
    (hm : w'.ownsMap Try.prog 83 eF g.bF (Maps.size g.DF + 1) (g.DF.put (kO o) (.held (fileV (.slice none 0 0) 0)))) (he : ∀ b, F b → b < w.heap.size → g.rl b ≠ 1 → w'.heap[b]? = w.heap[b]?) :
    DD { g with og := fun j => if j = M.files.length then o else g.og j, sv := fun j => if j = M.files.length then .slice none 0 0 else g.sv j, DF := g.DF.put (kO o) (.held (fileV (.slice none 0 0) 0)), lv := fun j => g.lv j ∨ j = M.files.length } (k + 1) w' F p { M with files := M.files ++ [([], 0)] } := by
  have hw : ∀ (r b : Nat), F b → g.rl b = r → r ≠ 1 → b < w.heap.size → w'.heap[b]? = w.heap[b]? ∧ F b ∧ g.rl b = r := fun r b h1 h2 h3 h6 => ⟨he b h1 h6 (by omega), h1, h2⟩
  obtain ⟨p1, p2, p3, p4, p5, p6, p7, p8, p9, p10, p11⟩ := h.pl
  have hog : ∀ j, j < M.files.length → (if j = M.files.length then o else g.og j) = g.og j := fun j hj => if_neg (by omega)
  have hfl : ({ M with files := M.files ++ [([], 0)] } : DK).files.length = M.files.length + 1 := by simp
  have htidy := h.files.1.tidy law8O
  have hko : keyOf Try.prog 83 (oV o) = some (kO o) := keyO ho2 ho0 (by omega)
  have hkl := law8O.key hko
  have hkne : ∀ j, j < M.files.length → kO (g.og j) ≠ kO o := fun j hj e => by
    have h1 := h.key hk hj
    rw [e] at h1
    exact hnew j hj (kO_inj h1 hko)
  refine ⟨ok7_grow h.ok, ⟨by show M.taken ≤ _; omega, by show M.kept.length + M.chs.length ≤ _; omega, ?_, ?_, p5, p6, p7, p8, p9, p10, by show M.names.length ≤ _; omega⟩, ?_, ?_, (hw 0 p h.foot.1 h.foot.2 (by omega) h.blk.lt).1.trans h.blk, h.foot, ?_, ?_, ?_, ⟨ownsMap_tight hm, h.files.2⟩, ?_, ?_, ?_, ⟨h.chs.1, ?_⟩, ⟨?_, ?_⟩, fun l hl => ?_⟩
  · intro y hy
    rcases List.mem_append.1 hy with hy | hy
    · have := p3 y hy; omega
    · rw [List.mem_singleton.1 hy]; simp
  · intro y hy
    rcases List.mem_append.1 hy with hy | hy
    · exact p4 y hy
    · rw [List.mem_singleton.1 hy]; simp
  · intro j hj
    rw [hfl] at hj
    show 0 ≤ (if j = M.files.length then o else g.og j).1 ∧ (if j = M.files.length then o else g.og j).1 ≤ _ ∧ (if j = M.files.length then o else g.og j).2.size ≤ 1000
    by_cases e : j = M.files.length
    · rw [if_pos e]; exact ⟨ho0, ho1, ho2⟩
    · rw [if_neg e]; exact h.org j (by omega)
  · intro j j' hj hj' e
    rw [hfl] at hj hj'
    have e : (if j = M.files.length then o else g.og j) = (if j' = M.files.length then o else g.og j') := e
    by_cases e1 : j = M.files.length
    · by_cases e2 : j' = M.files.length
      · omega
      · rw [if_pos e1, if_neg e2] at e; exact absurd e.symm (hnew j' (by omega))
    · by_cases e2 : j' = M.files.length
      · rw [if_neg e1, if_pos e2] at e; exact absurd e (hnew j (by omega))
      · rw [if_neg e1, if_neg e2] at e; exact h.inj j j' (by omega) (by omega) e
  · have := h.names.move (F' := F) (w' := w') (rl' := g.rl) (fun h1 h2 h3 => hw 2 _ h1 h2 (by omega) h3)
    unfold NMap at this ⊢
    show World.ownsMap w' Try.prog 9 eO g.bN M.names.length (nmD (fun j => if j = M.files.length then o else g.og j) M.names) ∧ _
    rw [nm_congr (og := g.og) (fun n hn => hog _ (h.ok.place n hn))]
    exact this
  · rcases h.kept.move (F' := F) (w' := w') (rl' := g.rl) (fun b h1 h2 h3 => hw 3 b h1 h2 (by omega) h3) with hq | ⟨b, hb, hq⟩
    · exact .inl hq
    · refine .inr ⟨b, hb, ?_⟩
      unfold NMap at hq ⊢
      show World.ownsMap w' Try.prog 9 eO b M.kept.length (nmD (fun j => if j = M.files.length then o else g.og j) M.kept) ∧ _
      rw [nm_congr (og := g.og) (fun n hn => hog _ (h.ok.kplace n hn))]
      exact hq
  · exact h.fails.move (fun b h1 h2 h3 => hw 4 b h1 h2 (by omega) h3)
  · show Maps.size (g.DF.put _ _) ≤ k + 1
    rw [size_put htidy]
    have := h.fsize
    split <;> omega
  · intro f hf; exact .inl (h.live f hf)
  · intro j hj
    by_cases e : j = M.files.length
    · subst e
      refine ⟨by rw [hfl]; omega, ?_, ?_, ?_, ?_⟩
      · show Maps.has (g.DF.put _ _) (kO (if M.files.length = M.files.length then o else g.og M.files.length)) = true
        rw [if_pos rfl]; exact has_put_same htidy.isMap hkl _
      · intro z
        show (g.DF.put _ _).atKey (kO (if M.files.length = M.files.length then o else g.og M.files.length)) z = .held (fileV (if M.files.length = M.files.length then .slice none 0 0 else g.sv M.files.length) _)
        rw [if_pos rfl, if_pos rfl, flN_new]; exact atKey_put_same htidy.isMap hkl _ z
      · show OW w' 0 (if M.files.length = M.files.length then .slice none 0 0 else g.sv M.files.length) _
        rw [if_pos rfl, flN_new]; exact .inl ⟨rfl, rfl⟩
      · intro b hb
        have hb' : (if M.files.length = M.files.length then Value.slice none 0 0 else g.sv M.files.length).ownBlock = some b := hb
        rw [if_pos rfl] at hb'; cases hb'
    · have hx' := h.each j (hj.resolve_right e)
      have hne := hkne j hx'.place
      refine ⟨by rw [hfl]; have := hx'.place; omega, ?_, ?_, ?_, ?_⟩
      · show Maps.has (g.DF.put _ _) (kO (if j = M.files.length then o else g.og j)) = true
        rw [if_neg e]; exact (has_put_other hne _).trans hx'.has
      · intro z
        show (g.DF.put _ _).atKey (kO (if j = M.files.length then o else g.og j)) z = .held (fileV (if j = M.files.length then .slice none 0 0 else g.sv j) _)
        rw [if_neg e, if_neg e, flN_grow hx'.place]; exact (atKey_put_other hne _ z).trans (hx'.at_ z)
      · show OW w' 0 (if j = M.files.length then .slice none 0 0 else g.sv j) _
        rw [if_neg e, flN_grow hx'.place]
        exact hx'.data.same8 (fun b hb hl => (hw _ b (hx'.own b hb).1 (hx'.own b hb).2 (by omega) hl).1)
      · intro b hb
        have hb' : (if j = M.files.length then Value.slice none 0 0 else g.sv j).ownBlock = some b := hb
        rw [if_neg e] at hb'
        exact hx'.own b hb'
  · intro c hc; rw [hfl]; have := h.chs.2 c hc; omega
  · have e : chCells (fun j => if j = M.files.length then o else g.og j) g.pc = chCells g.og g.pc := by
      have hall := h.chs.2
      unfold chCells
      generalize g.pc = l at hall
      induction l with
      | nil => rfl
      | cons c l ih =>
        rw [List.flatMap_cons, List.flatMap_cons, ih (fun d hd => hall d (List.mem_cons_of_mem _ hd))]
        have e1 : chV (fun j => if j = M.files.length then o else g.og j) c = chV g.og c := by
          unfold chV
          dsimp only
          rw [hog c.f (hall c (List.mem_cons_self ..))]
        rw [e1]
    show OS 4 w' 0 g.ch g.pc.length (chCells (fun j => if j = M.files.length then o else g.og j) g.pc)
    rw [e]
    exact h.chv.1.same8 (fun b hb hl => (hw 5 b (h.chv.2 b hb).1 (h.chv.2 b hb).2 (by omega) hl).1)
  · exact h.chv.2
  · by_cases e : l = kO o
    · refine ⟨M.files.length, .inr rfl, ?_⟩
      show l = kO (if M.files.length = M.files.length then o else g.og M.files.length)
      rw [if_pos rfl]; exact e
    · obtain ⟨f, hf, he⟩ := h.full l ((has_put_other e _).symm.trans hl)
      refine ⟨f, .inl hf, ?_⟩
      show l = kO (if f = M.files.length then o else g.og f)
      rw [if_neg (by have := (h.each f hf).place; omega)]; exact he
/-- the names are kept -/
theorem DD.keptNow (h : DD g k w F p M) {b1 b2 : Nat} {DF : DataW Value} (h1 : w.heap.size ≤ b1) (h2 : w.heap.size ≤ b2) (hne : b1 ≠ b2) (hF1 : F b1) (hF2 : F b2)
    (hm1 : w'.ownsMap Try.prog 9 eO b1 M.names.length (nmD g.og M.names)) (hm2 : w'.ownsMap Try.prog 83 eF b2 (Maps.size DF) DF) (hsz : Maps.size DF ≤ k)
    (hfull : ∀ l, Maps.has DF l = true → ∃ n ∈ M.names, l = kO (g.og n.2))
    (hall : ∀ n ∈ M.names, Maps.has DF (kO (g.og n.2)) = true ∧ ∀ z, DF.atKey (kO (g.og n.2)) z = .held (fileV (g.sv n.2) (flN M n.2).2))
    (hb : Bk w' p (dC { g with bF := b2, bK := some b1, ch := .slice none 0 0 } M) 71) (he : ∀ b, F b → b < w.heap.size → g.rl b ≠ 0 → w'.heap[b]? = w.heap[b]?) :
    DD { g with bF := b2, bK := some b1, ch := .slice none 0 0, pc := [], DF := DF, lv := fun f => ∃ n ∈ M.names, n.2 = f, rl := fun b => if b < w.heap.size then g.rl b else if b = b1 then 3 else 1 } k w' F p (keptD M) := by
  have hw : ∀ (r b : Nat), F b → g.rl b = r → r ≠ 0 → b < w.heap.size → w'.heap[b]? = w.heap[b]? ∧ F b ∧ (if b < w.heap.size then g.rl b else if b = b1 then 3 else 1) = r := fun r b h1 h2 h3 h6 => ⟨he b h1 h6 (by omega), h1, by rw [if_pos h6, h2]⟩
  obtain ⟨p1, p2, p3, p4, p5, p6, p7, p8, p9, p10, p11⟩ := h.pl
  refine ⟨⟨h.ok.quota, h.ok.sort, h.ok.sort, h.ok.place, h.ok.place, (fun c hc => by cases hc), h.ok.safe, h.ok.one⟩, ⟨p1, by show M.names.length + 0 ≤ _; omega, p3, p4, p5, p6, p6, (fun c hc => by cases hc), p9, p10, p11⟩, h.org, h.inj, hb, ⟨h.foot.1, ?_⟩, ?_, .inr ⟨b1, rfl, hm1, hF1, ?_⟩, ?_, ⟨hm2, hF2, ?_⟩, hsz, ?_, ?_, ⟨rfl, (fun c hc => by cases hc)⟩, ⟨⟨rfl, (fun u hu => by cases hu), .inl ⟨rfl, rfl⟩⟩, (fun b hb => by cases hb)⟩, (fun l hl => by obtain ⟨n, hn, e⟩ := hfull l hl; exact ⟨n.2, ⟨n, hn, rfl⟩, e⟩)⟩
  · show (if p < w.heap.size then g.rl p else _) = 0; rw [if_pos h.blk.lt, h.foot.2]
  · exact h.names.move (fun h1 h2 h3 => hw 2 _ h1 h2 (by omega) h3)
  · show (if b1 < w.heap.size then g.rl b1 else if b1 = b1 then 3 else 1) = 3
    rw [if_neg (by omega), if_pos rfl]
  · exact h.fails.move (fun b h1 h2 h3 => hw 4 b h1 h2 (by omega) h3)
  · show (if b2 < w.heap.size then g.rl b2 else if b2 = b1 then 3 else 1) = 1
    rw [if_neg (by omega), if_neg (Ne.symm hne)]
  · intro f hf
    rcases hf with hf | hf | ⟨c, hc, -⟩
    · exact hf
    · exact hf
    · cases hc
  · rintro f ⟨n, hn, rfl⟩
    have hx := h.each n.2 (h.live n.2 (.inl ⟨n, hn, rfl⟩))
    obtain ⟨a1, a2⟩ := hall n hn
    exact ⟨hx.place, a1, a2, hx.data.same8 (fun b hb hl => (hw _ b (hx.own b hb).1 (hx.own b hb).2 (by omega) hl).1), fun b hb => (hw _ b (hx.own b hb).1 (hx.own b hb).2 (by omega) (hx.data.low0 hb)).2⟩
end
end Go.Proofs.Ytlagmjdldplblaa
