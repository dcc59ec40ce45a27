/- Plain facts on how numbers are read. -/
import Derived.Test.YtiedejeimhjngaaI5a
namespace Go.Proofs.Ytiedejeimhjngaa
open Go.ChangeShapes Go.WideShapes Go.ChangeAt Go.RowKit
set_option linter.unusedVariables false

abbrev Byts (l : List Int) : Prop := ∀ z ∈ l, 0 ≤ z ∧ z ≤ 255
theorem byts_at {l : List Int} (h : Byts l) {j : Nat} (hj : j < l.length) : 0 ≤ l.getD j 0 ∧ l.getD j 0 ≤ 255 := by
  have := h (l[j]) (List.getElem_mem hj)
  simpa [List.getD, hj] using this
/-- eight bytes are those of the number that they say -/
theorem w8_acc8 {r : List Int} (h : Byts r) (hl : 8 ≤ r.length) : w8 (acc8 r 8) = r.take 8 := by
  have b0 := byts_at h (j := 0) (by omega)
  have b1 := byts_at h (j := 1) (by omega)
  have b2 := byts_at h (j := 2) (by omega)
  have b3 := byts_at h (j := 3) (by omega)
  have b4 := byts_at h (j := 4) (by omega)
  have b5 := byts_at h (j := 5) (by omega)
  have b6 := byts_at h (j := 6) (by omega)
  have b7 := byts_at h (j := 7) (by omega)
  have e : r.take 8 = [r.getD 0 0, r.getD 1 0, r.getD 2 0, r.getD 3 0, r.getD 4 0, r.getD 5 0, r.getD 6 0, r.getD 7 0] := by
    refine List.ext_getElem (by simp; omega) (fun i h1 h2 => ?_)
    simp only [List.length_cons, List.length_nil] at h2
    rw [List.getElem_take]
    have hi : i < r.length := by omega
    have g : r[i] = r.getD i 0 := by simp [List.getD, hi]
    rw [g]
    match i, h2 with
    | 0, _ => rfl
    | 1, _ => rfl
    | 2, _ => rfl
    | 3, _ => rfl
    | 4, _ => rfl
    | 5, _ => rfl
    | 6, _ => rfl
    | 7, _ => rfl
  have p0 : (2 : Int) ^ (8 * 0) = 1 := by decide
  have p1 : (2 : Int) ^ (8 * 1) = 256 := by decide
  have p2 : (2 : Int) ^ (8 * 2) = 65536 := by decide
  have p3 : (2 : Int) ^ (8 * 3) = 16777216 := by decide
  have p4 : (2 : Int) ^ (8 * 4) = 4294967296 := by decide
  have p5 : (2 : Int) ^ (8 * 5) = 1099511627776 := by decide
  have p6 : (2 : Int) ^ (8 * 6) = 281474976710656 := by decide
  have p7 : (2 : Int) ^ (8 * 7) = 72057594037927936 := by decide
  have ea : acc8 r 8 = 0 + r.getD 0 0 * 1 + r.getD 1 0 * 256 + r.getD 2 0 * 65536 + r.getD 3 0 * 16777216 + r.getD 4 0 * 4294967296 + r.getD 5 0 * 1099511627776 + r.getD 6 0 * 281474976710656 + r.getD 7 0 * 72057594037927936 := by
    rw [← p0, ← p1, ← p2, ← p3, ← p4, ← p5, ← p6, ← p7]; rfl
  rw [e, ea]
  generalize r.getD 0 0 = z0 at *
  generalize r.getD 1 0 = z1 at *
  generalize r.getD 2 0 = z2 at *
  generalize r.getD 3 0 = z3 at *
  generalize r.getD 4 0 = z4 at *
  generalize r.getD 5 0 = z5 at *
  generalize r.getD 6 0 = z6 at *
  generalize r.getD 7 0 = z7 at *
  generalize hx : 0 + z0 * 1 + z1 * 256 + z2 * 65536 + z3 * 16777216 + z4 * 4294967296 + z5 * 1099511627776 + z6 * 281474976710656 + z7 * 72057594037927936 = x
  show [d8 x 0, d8 x 1, d8 x 2, d8 x 3, d8 x 4, d8 x 5, d8 x 6, d8 x 7] = _
  unfold d8
  rw [p0, p1, p2, p3, p4, p5, p6, p7]
  clear ea e p0 p1 p2 p3 p4 p5 p6 p7 h hl
  simp only [List.cons.injEq, and_true]
  refine ⟨by omega, by omega, by omega, by omega, by omega, by omega, by omega, by omega⟩
theorem un_rd {x : Int} (h : 0 ≤ x ∧ x ≤ 18446744073709551615) : un (rd x) = x := by unfold un rd; omega
theorem fixedL_one (x : Int) : fixedL [x] = w8 (un x) := by rw [fixedL, fixedL, List.append_nil]
/-- one more number is read whole -/
theorem fixed_step {p r : List Int} {x : Int} (hr : Byts r) (hl : 8 ≤ r.length) (hx : acc8 r 8 = x) : fixedL p ++ r = fixedL (p ++ [rd x]) ++ r.drop 8 := by
  have hb := acc8_bd r hr 8 hl
  have e : (2 : Int) ^ (8 * 8) = 18446744073709551616 := by decide
  rw [e, hx] at hb
  rw [fixedL_app, fixedL_one, un_rd (by omega), ← hx, w8_acc8 hr hl, List.append_assoc, List.take_append_drop]
theorem fixed_few {p r zs : List Int} {N : Nat} (hz : zs = fixedL p ++ r) (hp : p.length < N) (hl : r.length < 8) : ∀ k, I64s k → k.length = N → fixedL k ≠ zs := by
  intro k _ hk h
  have := congrArg List.length h
  rw [hz, List.length_append, fixedL_len, fixedL_len, hk] at this
  omega
theorem fixed_one {l r zs : List Int} {N : Nat} (hz : zs = fixedL l ++ r) (hl : l.length = N) (hi : I64s l) : ∀ k, I64s k → k.length = N → fixedL k = zs → k = l := by
  intro k hk hkl h
  rw [hz] at h
  have hr : r = [] := by
    have := congrArg List.length h
    rw [List.length_append, fixedL_len, fixedL_len, hkl, hl] at this
    exact List.eq_nil_of_length_eq_zero (by omega)
  rw [hr, List.append_nil] at h
  exact fixedL_inj k l hk hi h
/-- one more number is read by its step -/
theorem delta_step {p r r' : List Int} {y was : Int} (hy : 0 ≤ y ∧ y ≤ 18446744073709551615) (hw : was = p.getLastD 0) (hr : r = pv y ++ r') : deltaL 0 p ++ r = deltaL 0 (p ++ [rd (was + zagF y)]) ++ r' := by
  have hz := zag_bd hy
  have e : rd (rd (was + zagF y) - was) = zagF y := by unfold rd; omega
  rw [deltaL_snoc, ← hw, e, zig_zag hy.1, hr, List.append_assoc]
theorem delta_few {p r zs : List Int} {N : Nat} (hz : zs = deltaL 0 p ++ r) (hp : p.length < N) (hv : (varR r).2 = 0) : ∀ k, I64s k → k.length = N → deltaL 0 k ≠ zs := by
  intro k hk hkl h
  rw [hz] at h
  obtain ⟨c, e1, e2⟩ := joinN_begin _ _ (zigs_u64 0 p) (zigs_u64 0 k) r h.symm
  cases c with
  | nil =>
    have := congrArg List.length e1
    rw [List.append_nil, zigs_len, zigs_len] at this
    omega
  | cons y c =>
    have hy : 0 ≤ y ∧ y ≤ 18446744073709551615 := zigs_u64 0 k y (by rw [e1]; simp)
    have := varR_put y (joinN c) hy.1 hy.2
    rw [e2, joinN, this] at hv
    have hp := pv_pos y
    simp at hv
    rw [hv] at hp
    simp at hp
theorem delta_one {l r zs : List Int} {N : Nat} (hz : zs = deltaL 0 l ++ r) (hl : l.length = N) (hi : I64s l) : ∀ k, I64s k → k.length = N → deltaL 0 k = zs → k = l := by
  intro k hk hkl h
  rw [hz] at h
  exact (deltaL_cut hi hk (by omega) h.symm).1.symm
/-- what zs says, when it says how many -/
theorem putI_of {zs body : List Int} {c : Int} (hc : 0 ≤ c ∧ c ≤ 18446744073709551615) (hz : zs = pv c ++ body) {k : List Int} (hk : k.length ≤ 2000) (h : putI k = zs) : (k.length : Int) = c ∧ bodyI k = body := by
  rw [hz, putI] at h
  exact pv_cut (by omega) hc h
theorem noI_none {zs : List Int} (h : (varR zs).2 = 0) : NoI zs := by
  intro k hk hn hp
  have := varR_put (k.length : Int) (bodyI k) (by omega) (by omega)
  rw [← putI, hp] at this
  rw [this] at h
  have := pv_pos (k.length : Int)
  simp at h
  rw [h] at this
  simp at this
theorem noI_many {zs body : List Int} {c : Int} (hc : 0 ≤ c ∧ c ≤ 18446744073709551615) (hz : zs = pv c ++ body) (h : 2000 < c) : NoI zs := by
  intro k hk hn hp
  have := (putI_of hc hz hn hp).1
  omega
theorem noI_empty {zs : List Int} {c : Int} (hc : 0 ≤ c ∧ c ≤ 18446744073709551615) (hz : zs = pv c) : NoI zs := by
  intro k hk hn hp
  have h1 := (putI_of (body := []) hc (by rw [List.append_nil]; exact hz) hn hp).2
  have h2 := (bodyI_len k).1
  rw [h1] at h2
  simp at h2
theorem noI_way {zs r : List Int} {c y : Int} (hc : 0 ≤ c ∧ c ≤ 18446744073709551615) (hz : zs = pv c ++ (y :: r)) (h0 : y ≠ 0) (h1 : y ≠ 1) : NoI zs := by
  intro k hk hn hp
  have h2 := (putI_of hc hz hn hp).2
  unfold bodyI at h2
  split at h2
  · rw [List.cons.injEq] at h2; exact h1 h2.1.symm
  · rw [List.cons.injEq] at h2; exact h0 h2.1.symm
theorem way0 {zs r : List Int} {c : Int} {N : Nat} (hc : 0 ≤ c ∧ c ≤ 18446744073709551615) (hz : zs = pv c ++ (0 :: r)) (hN : c = (N : Int)) {k : List Int} (hn : k.length ≤ 2000) (hp : putI k = zs) : k.length = N ∧ fixedL k = r := by
  obtain ⟨h1, h2⟩ := putI_of hc hz hn hp
  unfold bodyI at h2
  split at h2
  · rw [List.cons.injEq] at h2; exact absurd h2.1 (by decide)
  · rw [List.cons.injEq] at h2; exact ⟨by omega, h2.2⟩
theorem way1 {zs r : List Int} {c : Int} {N : Nat} (hc : 0 ≤ c ∧ c ≤ 18446744073709551615) (hz : zs = pv c ++ (1 :: r)) (hN : c = (N : Int)) {k : List Int} (hn : k.length ≤ 2000) (hp : putI k = zs) : k.length = N ∧ deltaL 0 k = r := by
  obtain ⟨h1, h2⟩ := putI_of hc hz hn hp
  unfold bodyI at h2
  split at h2
  · rw [List.cons.injEq] at h2; exact ⟨by omega, h2.2⟩
  · rw [List.cons.injEq] at h2; exact absurd h2.1 (by decide)
end Go.Proofs.Ytiedejeimhjngaa
