/- Plain facts on how a schema is taken: numbers that are read one by one. -/
import Derived.Test.YtllgnafbemmcaaaS4a
namespace Go.Proofs.Ytllgnafbemmcaaa
set_option linter.unusedVariables false

abbrev Bytes (zs : List Int) : Prop := ∀ z ∈ zs, 0 ≤ z ∧ z ≤ 255
/-- the next number, and what is behind it -/
def nx (zs : List Int) : Int × List Int := (IntKind.i64.wrap (varR zs).1, zs.drop (varR zs).2.toNat)
/-- so many numbers, and what is behind them -/
def nxs : Nat → List Int → List Int × List Int
  | 0, zs => ([], zs)
  | k + 1, zs => ((nxs k zs).1 ++ [(nx (nxs k zs).2).1], (nx (nxs k zs).2).2)
theorem Bytes.drop {zs : List Int} (h : Bytes zs) (k : Nat) : Bytes (zs.drop k) := fun z hz => h z (List.mem_of_mem_drop hz)
theorem nx_bytes {zs : List Int} (h : Bytes zs) : Bytes (nx zs).2 := h.drop _
theorem nxs_bytes {zs : List Int} (h : Bytes zs) : ∀ k, Bytes (nxs k zs).2
  | 0 => h
  | k + 1 => nx_bytes (nxs_bytes h k)
theorem nxs_len (zs : List Int) : ∀ k, (nxs k zs).1.length = k
  | 0 => rfl
  | k + 1 => by rw [nxs, List.length_append, nxs_len zs k]; rfl
theorem nx_rng (zs : List Int) : -9223372036854775808 ≤ (nx zs).1 ∧ (nx zs).1 ≤ 9223372036854775807 := by
  show -9223372036854775808 ≤ IntKind.i64.wrap _ ∧ IntKind.i64.wrap _ ≤ 9223372036854775807
  rw [IntKind.wrap_i64]; omega
theorem nx_back {zs : List Int} (hz : Bytes zs) (h : 1 ≤ (nx zs).1) : zs = pv (nx zs).1 ++ (nx zs).2 := by
  by_cases h0 : (varR zs).2 = 0
  · have e := varR_none h0
    rw [nx, e] at h
    have e0 : IntKind.i64.wrap 0 = 0 := rfl
    simp only [e0] at h
    omega
  · obtain ⟨y, rest, hr, h1, h2, he⟩ := varR_back zs hz h0
    have e1 : (nx zs).1 = IntKind.i64.wrap y := by rw [nx, he]
    have e2 : (nx zs).2 = zs.drop (pv y).length := by rw [nx, he]; simp
    have e3 : IntKind.i64.wrap y = y := by rw [e1] at h; rw [IntKind.wrap_i64] at h ⊢; omega
    rw [e2, e1, e3, hr]
    simp
theorem nx_put {y : Int} (h0 : 0 ≤ y) (h1 : y ≤ 9223372036854775807) (r : List Int) : nx (pv y ++ r) = (y, r) := by
  rw [nx, varR_put y r h0 (by omega)]
  have e : IntKind.i64.wrap y = y := by rw [IntKind.wrap_i64]; omega
  simp [e]
theorem nxs_back {zs : List Int} (hz : Bytes zs) : ∀ k, (∀ x ∈ (nxs k zs).1, 1 ≤ x) → zs = joinN (nxs k zs).1 ++ (nxs k zs).2
  | 0, _ => rfl
  | k + 1, h => by
    have ih := nxs_back hz k (fun x hx => h x (by rw [nxs]; exact List.mem_append_left _ hx))
    have h1 := nx_back (nxs_bytes hz k) (h _ (by rw [nxs]; exact List.mem_append_right _ (List.mem_cons_self ..)))
    rw [nxs, joinN_app, joinN_one, List.append_assoc, ← h1]
    exact ih
theorem nxs_put (l r : List Int) (hl : ∀ x ∈ l, 0 ≤ x ∧ x ≤ 9223372036854775807) : ∀ k, k ≤ l.length → nxs k (joinN l ++ r) = (l.take k, joinN (l.drop k) ++ r)
  | 0, _ => rfl
  | k + 1, hk => by
    have ih := nxs_put l r hl k (by omega)
    have hd : l.drop k = l[k] :: l.drop (k + 1) := List.drop_eq_getElem_cons (by omega)
    have hx := hl l[k] (List.getElem_mem _)
    rw [nxs, ih]
    simp only []
    rw [hd, joinN, List.append_assoc, nx_put hx.1 hx.2, List.take_succ_eq_append_getElem (by omega)]
/-- what a schema's bytes say, read one by one -/
structure Says (zs ts : List Int) (k m g : Int) (r : List Int) : Prop where
  count : (nx zs).1 = (ts.length : Int)
  types : (nxs ts.length (nx zs).2).1 = ts
  keys : (nx (nxs ts.length (nx zs).2).2).1 = k
  mode : (nx (nx (nxs ts.length (nx zs).2).2).2).1 = m
  grain : (nx (nx (nx (nxs ts.length (nx zs).2).2).2).2).1 = g
  rest : (nx (nx (nx (nxs ts.length (nx zs).2).2).2).2).2 = r
/-- what is read whole is what was put -/
theorem says_put {zs ts : List Int} {k m g : Int} (hz : Bytes zs) (h : Says zs ts k m g []) (hc : checkB ts k m g = true) : putS ts k m g = zs := by
  obtain ⟨q1, q2, q3, q4, q5, q6, q7, q8, q9⟩ := check_is hc
  obtain ⟨h1, h2, h3, h4, h5, h6⟩ := h
  have b1 := nx_bytes hz
  have b2 := nxs_bytes b1 ts.length
  have b3 := nx_bytes b2
  have b4 := nx_bytes b3
  have e1 := nx_back hz (by rw [h1]; omega)
  have e2 := nxs_back b1 ts.length (by rw [h2]; exact fun x hx => (q9 x hx).1)
  have e3 := nx_back b2 (by rw [h3]; exact q3)
  have e4 := nx_back b3 (by rw [h4]; exact q5)
  have e5 := nx_back b4 (by rw [h5]; exact q7)
  rw [h6, h5, List.append_nil] at e5
  rw [e5, h4] at e4
  rw [e4, h3] at e3
  rw [e3, h2] at e2
  rw [e2, h1] at e1
  rw [putS, schemaN, joinN, joinN_app, e1]
  simp [joinN]
/-- what was put is read whole -/
theorem put_says {zs ts : List Int} {k m g : Int} (h : putS ts k m g = zs) (hc : checkB ts k m g = true) : Says zs ts k m g [] := by
  obtain ⟨q1, q2, q3, q4, q5, q6, q7, q8, q9⟩ := check_is hc
  have e0 : zs = pv (ts.length : Int) ++ (joinN ts ++ (pv k ++ (pv m ++ (pv g ++ [])))) := by
    rw [← h, putS, schemaN, joinN, joinN_app]; simp [joinN]
  have e1 : nx zs = ((ts.length : Int), joinN ts ++ (pv k ++ (pv m ++ (pv g ++ [])))) := by rw [e0]; exact nx_put (by omega) (by omega) _
  have e2 := nxs_put ts (pv k ++ (pv m ++ (pv g ++ []))) (fun x hx => by have := q9 x hx; omega) ts.length (Nat.le_refl _)
  rw [List.take_length, List.drop_length] at e2
  have e2' : nxs ts.length (nx zs).2 = (ts, pv k ++ (pv m ++ (pv g ++ []))) := by rw [e1]; exact e2
  have e3 : nx (nxs ts.length (nx zs).2).2 = (k, pv m ++ (pv g ++ [])) := by rw [e2']; exact nx_put (by omega) (by omega) _
  have e4 : nx (nx (nxs ts.length (nx zs).2).2).2 = (m, pv g ++ []) := by rw [e3]; exact nx_put (by omega) (by omega) _
  have e5 : nx (nx (nx (nxs ts.length (nx zs).2).2).2).2 = (g, []) := by rw [e4]; exact nx_put (by omega) (by omega) _
  exact ⟨by rw [e1], by rw [e2'], by rw [e3], by rw [e4], by rw [e5], by rw [e5]⟩
/-- the bytes are put of no schema that may be -/
def NoS (zs : List Int) : Prop := ∀ ts k m g, checkB ts k m g = true → putS ts k m g ≠ zs
/-- so it is told that there is none, if what is read is none -/
theorem no_says {zs ts : List Int} {k m g : Int} {r : List Int} (hs : Says zs ts k m g r) (h : r ≠ [] ∨ checkB ts k m g = false) : NoS zs := by
  intro us k' m' g' hc hp
  obtain ⟨h1, h2, h3, h4, h5, h6⟩ := put_says hp hc
  obtain ⟨s1, s2, s3, s4, s5, s6⟩ := hs
  have hl : us.length = ts.length := by rw [s1] at h1; omega
  rw [hl] at h2 h3 h4 h5 h6
  rw [s2] at h2
  rw [s3] at h3
  rw [s4] at h4
  rw [s5] at h5
  rw [s6] at h6
  subst h2 h3 h4 h5
  rcases h with h | h
  · exact h h6
  · rw [hc] at h; cases h
theorem no_count {zs : List Int} (h : ¬ (1 ≤ (nx zs).1 ∧ (nx zs).1 ≤ 64)) : NoS zs := by
  intro us k' m' g' hc hp
  have := (put_says hp hc).count
  have := check_is hc
  omega
end Go.Proofs.Ytllgnafbemmcaaa
