/- Texts that belong together, one behind the other: QBp, QBq, QBr, QBs, QBt, QBu, QBv, QBw. -/
import Derived.Test.YtbfihajgjbpmaaaGreatBlock
import Derived.Test.YtbfihajgjbpmaaaGreatTexts
import Derived.Test.YtbfihajgjbpmaaaGreatGrnA
import Derived.Test.YtbfihajgjbpmaaaGreatOrdA
/- Stage 11, plain: frames one behind the other; a byte of a frame that is changed is told. -/
namespace Go.Proofs.YtbfihajgjbpmaaaGreat
set_option linter.unusedVariables false
set_option maxRecDepth 4000

abbrev Byt (zs : List Int) : Prop := ∀ z ∈ zs, 0 ≤ z ∧ z ≤ 255
/-- frames, one behind the other -/
def frsL : List (List Int) → List Int
  | [] => []
  | d :: ds => frameL d ++ frsL ds
theorem frsL_app : ∀ a b, frsL (a ++ b) = frsL a ++ frsL b
  | [], b => rfl
  | d :: a, b => by rw [List.cons_append, frsL, frsL, frsL_app a b, List.append_assoc]
abbrev SmF (ds : List (List Int)) : Prop := ∀ d ∈ ds, d.length ≤ 1048576
theorem frame_pos (d : List Int) : 1 ≤ (frameL d).length := by rw [frameL_len]; have := pv_pos (d.length : Int); omega
theorem len_u64 {d : List Int} (h : d.length ≤ 1048576) : 0 ≤ (d.length : Int) ∧ (d.length : Int) ≤ 18446744073709551615 := by omega
theorem frame_cut {a b r r' : List Int} (ha : a.length ≤ 1048576) (hb : b.length ≤ 1048576) (h : frameL a ++ r = frameL b ++ r') : a = b ∧ r = r' := by
  unfold frameL at h
  simp only [List.append_assoc] at h
  obtain ⟨h1, h2⟩ := pv_cut (len_u64 ha) (len_u64 hb) h
  have hl : a.length = b.length := by omega
  obtain ⟨-, h3⟩ := List.append_inj h2 (by rw [sealL_len, sealL_len])
  exact List.append_inj h3 hl
theorem frs_cut : ∀ p q, SmF p → SmF q → ∀ {r r' : List Int}, frsL p ++ r = frsL q ++ r' → (frsL p).length ≤ (frsL q).length → ∃ c, q = p ++ c ∧ r = frsL c ++ r'
  | [], q, _, _, r, r', h, _ => ⟨q, rfl, h⟩
  | d :: p, [], _, _, r, r', _, hl => by
    have := frame_pos d
    simp only [frsL, List.length_append, List.length_nil] at hl
    omega
  | d :: p, d' :: q, hp, hq, r, r', h, hl => by
    rw [frsL, frsL, List.append_assoc, List.append_assoc] at h
    obtain ⟨rfl, h2⟩ := frame_cut (hp d (List.mem_cons_self ..)) (hq d' (List.mem_cons_self ..)) h
    rw [frsL, frsL, List.length_append, List.length_append] at hl
    obtain ⟨c, e1, e2⟩ := frs_cut p q (fun x hx => hp x (List.mem_cons_of_mem _ hx)) (fun x hx => hq x (List.mem_cons_of_mem _ hx)) h2 (by omega)
    exact ⟨c, by rw [e1]; rfl, e2⟩
/-- frames are told apart -/
theorem frs_inj {p q : List (List Int)} (hp : SmF p) (hq : SmF q) (h : frsL p = frsL q) : p = q := by
  obtain ⟨c, e1, e2⟩ := frs_cut p q hp hq (r := []) (r' := []) (by rw [h]) (by rw [h]; exact Nat.le_refl _)
  cases c with
  | nil => rw [e1, List.append_nil]
  | cons d c =>
    rw [List.append_nil, frsL] at e2
    have := congrArg List.length e2
    rw [List.length_append] at this
    have := frame_pos d
    simp at *
    omega
/-- in which frame a place lies -/
theorem frs_at : ∀ (ds : List (List Int)) (k : Nat), k < (frsL ds).length → ∃ p d q j, ds = p ++ d :: q ∧ k = (frsL p).length + j ∧ j < (frameL d).length
  | [], k, h => by simp [frsL] at h
  | d :: ds, k, h => by
    by_cases hk : k < (frameL d).length
    · exact ⟨[], d, ds, k, rfl, by simp [frsL], hk⟩
    · rw [frsL, List.length_append] at h
      obtain ⟨p, e, q, j, e1, e2, e3⟩ := frs_at ds (k - (frameL d).length) (by omega)
      exact ⟨d :: p, e, q, j, by rw [e1]; rfl, by rw [frsL, List.length_append]; omega, e3⟩
/-- a byte that is changed changes the sum -/
theorem crc_set {X : List Int} {d : Nat} {c : Int} (hX : Byt X) (hd : d < X.length) (hc : 0 ≤ c ∧ c ≤ 255) (hne : c ≠ X.getD d 0) : crcN X ≠ crcN (X.set d c) := by
  intro e
  have hx : 0 ≤ X.getD d 0 ∧ X.getD d 0 ≤ 255 := hX _ (by simp [hd])
  obtain ⟨m, hm⟩ : ∃ m, (X.getD d 0).toNat ^^^ c.toNat = m := ⟨_, rfl⟩
  have hmb : m < 256 := by rw [← hm]; exact xor_lt8 (by omega) (by omega)
  rw [crcN_eq (by rw [List.length_set]), numOf_set X d c m hd (by rw [← hm, ← Nat.xor_assoc, Nat.xor_self, Nat.zero_xor]), ← Nat.xor_assoc, Nat.xor_self, Nat.zero_xor] at e
  have h0 := burst _ (8 * d) m (by omega) (by omega) e
  rw [h0] at hm
  have := xor_eq_zero hm
  omega
theorem set_app_l {a b : List Int} {i : Nat} (c : Int) (h : i < a.length) : (a ++ b).set i c = a.set i c ++ b := List.set_append_left _ _ h
theorem set_app_r {a b : List Int} {i : Nat} (c : Int) : (a ++ b).set (a.length + i) c = a ++ b.set i c := by
  rw [List.set_append_right _ _ (Nat.le_add_right _ _), Nat.add_sub_cancel_left]
theorem get_app_l {a b : List Int} {i : Nat} (h : i < a.length) : (a ++ b).getD i 0 = a.getD i 0 := by simp [List.getD, List.getElem?_append_left h]
theorem get_app_r {a b : List Int} {i : Nat} : (a ++ b).getD (a.length + i) 0 = b.getD i 0 := by
  simp [List.getD, List.getElem?_append_right (Nat.le_add_right a.length i)]
theorem set_same {a : List Int} {i : Nat} {c : Int} (hi : i < a.length) (h : a.set i c = a) : c = a.getD i 0 := by
  have := congrArg (fun z : List Int => z.getD i 0) h
  simp only [List.getD, List.getElem?_set_self hi, Option.getD_some] at this
  rw [this]; rfl
/-- a byte behind the length -/
theorem frame_told {d d' R R' : List Int} {j : Nat} {c : Int} (hd : d.length ≤ 1048576) (hd' : d'.length ≤ 1048576) (hb : Byt d) (hb' : Byt d') (hc : 0 ≤ c ∧ c ≤ 255) (hj : (pv (d.length : Int)).length ≤ j) (hj2 : j < (frameL d).length) (hne : c ≠ (frameL d).getD j 0)
    (h : frameL d' ++ R' = (frameL d).set j c ++ R) : False := by
  obtain ⟨i, rfl⟩ : ∃ i, j = (pv (d.length : Int)).length + i := ⟨j - (pv (d.length : Int)).length, by omega⟩
  rw [frameL_len] at hj2
  unfold frameL at h hne
  rw [List.append_assoc (pv (d.length : Int)), set_app_r] at h
  rw [List.append_assoc, get_app_r] at hne
  simp only [List.append_assoc] at h
  obtain ⟨h1, h2⟩ := pv_cut (len_u64 hd') (len_u64 hd) h
  have hl : d'.length = d.length := by omega
  rw [← List.append_assoc] at h2
  obtain ⟨h3, -⟩ := List.append_inj h2 (by rw [List.length_append, List.length_set, List.length_append, sealL_len, sealL_len, hl])
  by_cases h4 : i < 4
  · rw [set_app_l c (by rw [sealL_len]; exact h4)] at h3
    obtain ⟨h5, h6⟩ := List.append_inj h3 (by rw [List.length_set, sealL_len, sealL_len])
    rw [get_app_l (by rw [sealL_len]; exact h4)] at hne
    rw [h6] at h5
    exact hne (set_same (by rw [sealL_len]; exact h4) h5.symm)
  · obtain ⟨q, rfl⟩ : ∃ q, i = (sealL d).length + q := ⟨i - 4, by rw [sealL_len]; omega⟩
    rw [sealL_len] at hj2
    rw [set_app_r] at h3
    rw [get_app_r] at hne
    obtain ⟨h5, h6⟩ := List.append_inj h3 (by rw [sealL_len, sealL_len])
    rw [h6] at h5
    have hb2 : Byt (d.set q c) := by rw [← h6]; exact hb'
    exact crc_set hb (by omega) hc hne (sealL_inj hb hb2 h5.symm)
end Go.Proofs.YtbfihajgjbpmaaaGreat
/- Stage 11, plain: a byte of a length that is changed is told, of columns of few values and of schemas. -/
namespace Go.Proofs.YtbfihajgjbpmaaaGreat
set_option linter.unusedVariables false
set_option maxRecDepth 4000

/-- a column that begins as another one is that one -/
theorem bare_begin {t : Int} {l k : List (Int × ByteArray)} (hl : colB t l = true) (hk : colB t k = true) (rl : RgV l) (rk : RgV k) {r : List Int} (h : bareL t l ++ r = bareL t k) : l = k := by
  rcases type_cases (colB_iff.1 hl).1 with ht | rfl
  · have h' := h
    rw [bare_num ht, bare_num ht] at h'
    have hln := (colB_iff.1 hl).2.1
    have hkn := (colB_iff.1 hk).2.1
    obtain ⟨-, hr⟩ := putI_begin (nums_i64 rl) (nums_i64 rk) (by rw [List.length_map]; omega) (by rw [List.length_map]; omega) h'
    rw [hr, List.append_nil] at h
    exact bare_inj hl hk rl rk h
  · have h' := h
    rw [bare_txt, bare_txt] at h'
    have ol := col_okT hl
    have ok := col_okT hk
    obtain ⟨-, hr⟩ := putT_begin ol.fit ok.fit (by have := ol.1; omega) (by have := ok.1; omega) h'
    rw [hr, List.append_nil] at h
    exact bare_inj hl hk rl rk h
theorem data_cut {t : Int} {l k : List (Int × ByteArray)} (hl : colB t l = true) (hk : colB t k = true) (rl : RgV l) (rk : RgV k) {r r' : List Int} (h : dataL t l ++ r = dataL t k ++ r') : l = k := by
  unfold dataL at h
  simp only [List.cons_append, List.cons.injEq, true_and] at h
  rcases List.append_eq_append_iff.1 h with ⟨a, e1, -⟩ | ⟨a, e1, -⟩
  · exact bare_begin hl hk rl rk e1.symm
  · exact (bare_begin hk hl rk rl e1.symm).symm
/-- how the bytes of few values begin -/
theorem bare_form {t : Int} {l : List (Int × ByteArray)} (hn : l.length < 128) : ∃ w r, bareL t l = (l.length : Int) :: w :: r ∧ (w = 0 ∨ w = 1) := by
  unfold bareL
  split
  · unfold putT
    rw [List.length_map, pv_small (by omega)]
    unfold bodyT
    split
    · exact ⟨1, _, rfl, .inr rfl⟩
    · exact ⟨0, _, rfl, .inl rfl⟩
  · unfold putI
    rw [List.length_map, pv_small (by omega)]
    unfold bodyI
    split
    · exact ⟨1, _, rfl, .inr rfl⟩
    · exact ⟨0, _, rfl, .inl rfl⟩
theorem each_most : ∀ (l : List ByteArray), (∀ s ∈ l, s.size ≤ 60) → (eachL l).length ≤ 61 * l.length
  | [], _ => by simp [eachL]
  | s :: l, h => by
    have h1 := each_most l (fun x hx => h x (List.mem_cons_of_mem _ hx))
    have h2 := h s (List.mem_cons_self ..)
    have h3 : eachL (s :: l) = eachL [s] ++ eachL l := eachL_app [s] l
    have h4 : (eachL [s]).length = 1 + s.size := by
      have := eachL_snoc [] s
      rw [List.nil_append] at this
      rw [this]
      have hs : (nums s).length = s.size := nums_len s
      simp only [eachL, List.nil_append, List.length_append, hs, pv_small (show (s.size : Int) < 128 by omega), List.length_singleton]
    rw [h3, List.length_append, h4, List.length_cons]
    omega
/-- how many bytes a column of few values has -/
theorem data_few {t : Int} {l : List (Int × ByteArray)} (h : colB t l = true) (hn : l.length ≤ 8) : (dataL t l).length ≤ 491 ∧ (l.length ≤ 1 → (dataL t l).length < 128) ∧ (t ≠ 3 → (dataL t l).length < 128) := by
  unfold dataL
  rw [List.length_cons]
  rcases type_cases (colB_iff.1 h).1 with ht | rfl
  · rw [bare_num ht]
    unfold putI
    rw [List.length_append, List.length_map, pv_small (by omega), List.length_singleton]
    have := (bodyI_len (numsV l)).2
    rw [List.length_map] at this
    omega
  · rw [bare_txt]
    unfold putT
    rw [List.length_append, List.length_map, pv_small (by omega), List.length_singleton]
    have h1 := (bodyT_len (txtsV l)).2
    have h2 := each_most (txtsV l) (col_okT h).2
    rw [List.length_map] at h2
    omega
theorem pv_two {n : Nat} (h1 : ¬ (n : Int) < 128) (h2 : (n : Int) < 16384) : pv (n : Int) = [(n : Int) % 128 + 128, (n : Int) / 128] := by
  rw [pv_big h1, pv_small (by omega)]
/-- a byte of the length of a column of few values -/
theorem len_told {t : Int} {l k : List (Int × ByteArray)} (hl : colB t l = true) (hk : colB t k = true) (rl : RgV l) (rk : RgV k) (nl : 1 ≤ l.length ∧ l.length ≤ 8) (nk : 1 ≤ k.length ∧ k.length ≤ 8) {j : Nat} {c : Int} {R R' : List Int}
    (hj : j < (pv ((dataL t l).length : Int)).length) (hne : c ≠ (frameL (dataL t l)).getD j 0) (h : frameL (dataL t k) ++ R' = (frameL (dataL t l)).set j c ++ R) : False := by
  obtain ⟨w, r, hb, hw⟩ := bare_form (t := t) (l := l) (by omega)
  obtain ⟨w', r', hb', hw'⟩ := bare_form (t := t) (l := k) (by omega)
  have fl := data_few hl nl.2
  have fk := data_few hk nk.2
  have hT := (colB_iff.1 hl).1
  unfold frameL at h hne
  rw [List.append_assoc, get_app_l hj] at hne
  rw [List.append_assoc (pv ((dataL t l).length : Int)), set_app_l c hj] at h
  simp only [List.append_assoc] at h
  have same : ∀ {X Y : List Int}, X.length = Y.length → X ++ (sealL (dataL t k) ++ (dataL t k ++ R')) = Y ++ (sealL (dataL t l) ++ (dataL t l ++ R)) → k = l ∧ X = Y := by
    intro X Y hxy e
    obtain ⟨e1, e2⟩ := List.append_inj e hxy
    obtain ⟨-, e3⟩ := List.append_inj e2 (by rw [sealL_len, sealL_len])
    exact ⟨data_cut hk hl rk rl e3, e1⟩
  obtain ⟨s0, s1, s2, s3, hs⟩ : ∃ a b c d, sealL (dataL t l) = [a, b, c, d] := by
    have := sealL_len (dataL t l)
    match sealL (dataL t l), this with
    | [a, b, c, d], _ => exact ⟨a, b, c, d, rfl⟩
  obtain ⟨u0, u1, u2, u3, hu⟩ : ∃ a b c d, sealL (dataL t k) = [a, b, c, d] := by
    have := sealL_len (dataL t k)
    match sealL (dataL t k), this with
    | [a, b, c, d], _ => exact ⟨a, b, c, d, rfl⟩
  by_cases n1 : ((dataL t l).length : Int) < 128
  · rw [pv_small n1] at h hj hne
    have hj0 : j = 0 := by simp at hj; omega
    subst hj0
    by_cases m1 : ((dataL t k).length : Int) < 128
    · rw [pv_small m1] at h
      obtain ⟨e1, e2⟩ := same (by simp) h
      rw [e1] at e2
      simp at e2 hne
      exact hne e2.symm
    · rw [pv_two m1 (by omega), hs, hu] at h
      unfold dataL at h
      rw [hb, hb'] at h
      simp at h
      have : k.length ≤ 1 := by rcases hw with rfl | rfl <;> omega
      have := fk.2.1 this
      omega
  · have ht3 : t = 3 := by
      by_cases h3 : t = 3
      · exact h3
      · have := fl.2.2 h3; omega
    rw [pv_two n1 (by omega)] at h hj hne
    by_cases m1 : ((dataL t k).length : Int) < 128
    · rw [pv_small m1, hs, hu] at h
      obtain ⟨a0, a1, ha⟩ : ∃ a b, [((dataL t l).length : Int) % 128 + 128, ((dataL t l).length : Int) / 128].set j c = [a, b] := by
        match j, hj with
        | 0, _ => exact ⟨_, _, rfl⟩
        | 1, _ => exact ⟨_, _, rfl⟩
      rw [ha] at h
      unfold dataL at h
      rw [hb, hb'] at h
      simp at h
      have : l.length ≤ 1 := by rcases hw' with rfl | rfl <;> omega
      have := fl.2.1 this
      omega
    · rw [pv_two m1 (by omega)] at h
      obtain ⟨e1, e2⟩ := same (by simp) h
      rw [e1] at e2
      exact hne (set_same hj e2.symm)
/-- how a schema is put: its numbers are bytes -/
theorem schema_small {ts : List Int} {K m g : Int} (h : checkB ts K m g = true) : putS ts K m g = schemaN ts K m g ∧ (putS ts K m g).length < 128 := by
  obtain ⟨h1, h2, h3, h4, h5, h6, h7, h8, h9⟩ := check_is h
  have e : putS ts K m g = schemaN ts K m g := by
    unfold putS
    refine joinN_small (fun x hx => ?_)
    simp only [schemaN, List.mem_cons, List.mem_append, List.not_mem_nil, or_false] at hx
    rcases hx with rfl | hx | rfl | rfl | rfl
    · omega
    · have := h9 x hx; omega
    · omega
    · omega
    · omega
  refine ⟨e, ?_⟩
  rw [e]
  simp [schemaN]
  omega
theorem putS_cut {ts us : List Int} {k1 m1 g1 k2 m2 g2 : Int} (h1 : checkB ts k1 m1 g1 = true) (h2 : checkB us k2 m2 g2 = true) {r r' : List Int} (h : putS ts k1 m1 g1 ++ r = putS us k2 m2 g2 ++ r') : putS ts k1 m1 g1 = putS us k2 m2 g2 := by
  rcases List.append_eq_append_iff.1 h with ⟨a, e1, -⟩ | ⟨a, e1, -⟩
  · have := putS_more h1 h2 e1.symm
    rw [e1, this, List.append_nil]
  · have := putS_more h2 h1 e1.symm
    rw [e1, this, List.append_nil]
/-- a byte of the length of a schema -/
theorem head_told {ts us : List Int} {k1 m1 g1 k2 m2 g2 : Int} (h1 : checkB ts k1 m1 g1 = true) (h2 : checkB us k2 m2 g2 = true) {j : Nat} {c : Int} {R R' : List Int}
    (hj : j < (pv ((putS ts k1 m1 g1).length : Int)).length) (hne : c ≠ (frameL (putS ts k1 m1 g1)).getD j 0) (h : frameL (putS us k2 m2 g2) ++ R' = (frameL (putS ts k1 m1 g1)).set j c ++ R) : False := by
  have a1 := (schema_small h1).2
  have a2 := (schema_small h2).2
  unfold frameL at h hne
  rw [List.append_assoc, get_app_l hj] at hne
  rw [List.append_assoc (pv ((putS ts k1 m1 g1).length : Int)), set_app_l c hj] at h
  simp only [List.append_assoc] at h
  rw [pv_small (by omega)] at h hj hne
  rw [pv_small (by omega)] at h
  have hj0 : j = 0 := by simp at hj; omega
  subst hj0
  obtain ⟨e1, e2⟩ := List.append_inj h (by simp)
  obtain ⟨-, e3⟩ := List.append_inj e2 (by rw [sealL_len, sealL_len])
  rw [putS_cut h2 h1 e3] at e1
  simp at e1 hne
  exact hne e1.symm
end Go.Proofs.YtbfihajgjbpmaaaGreat
/- Stage 11, plain: a part's bytes; any one byte of them that is changed is told. -/
namespace Go.Proofs.YtbfihajgjbpmaaaGreat
set_option linter.unusedVariables false
set_option maxRecDepth 4000

/-- rows that may be, of these types -/
structure RowsOk (ts : List Int) (l : List RowV) : Prop where
  len : ∀ r ∈ l, r.length = ts.length
  fit : ∀ r ∈ l, ∀ k, k < ts.length → fitsB (ts.getD k 0) (r.getD k v0).1 (r.getD k v0).2 = true
  rg : ∀ r ∈ l, RgV r
theorem RowsOk.sub {ts : List Int} {l g : List RowV} (h : RowsOk ts l) (hs : ∀ r ∈ g, r ∈ l) : RowsOk ts g := ⟨fun r hr => h.len r (hs r hr), fun r hr => h.fit r (hs r hr), fun r hr => h.rg r (hs r hr)⟩
theorem RowsOk.of {ts : List Int} {l : List RowV} (h : ∀ r ∈ l, FR ts r) : RowsOk ts l := by
  refine ⟨fun r hr => (h r hr).len, fun r hr k hk => (okR_get (h r hr).ok k hk).2.1, fun r hr v hv => ?_⟩
  obtain ⟨i, hi, rfl⟩ := List.mem_iff_getElem.1 hv
  have h1 := okR_get (h r hr).ok i (by rw [← (h r hr).len]; exact hi)
  have e : r.getD i v0 = r[i] := by simp [List.getD, hi]
  rw [e] at h1
  exact h1.2.2
theorem RowsOk.col {ts : List Int} {g : List RowV} (h : RowsOk ts g) {k : Nat} (hk : k < ts.length) : colL g (k : Int) = g.map fun r => r.getD k v0 := by
  rw [colL_yes (fun r hr => by rw [h.len r hr]; omega)]; rfl
theorem RowsOk.colB {ts : List Int} {g : List RowV} (h : RowsOk ts g) (ht : ∀ x ∈ ts, 1 ≤ x ∧ x ≤ 3) (hn : g.length ≤ 2000) {k : Nat} (hk : k < ts.length) :
    colB (ts.getD k 0) (colL g (k : Int)) = true ∧ RgV (colL g (k : Int)) ∧ (colL g (k : Int)).length = g.length := by
  rw [h.col hk]
  have e : ts.getD k 0 = ts[k] := by simp [List.getD, hk]
  refine ⟨colB_iff.2 ⟨by rw [e]; exact ht _ (List.getElem_mem _), by rw [List.length_map]; exact hn, fun v hv => ?_⟩, fun v hv => ?_, List.length_map _⟩
  · obtain ⟨r, hr, rfl⟩ := List.mem_map.1 hv
    exact h.fit r hr k hk
  · obtain ⟨r, hr, rfl⟩ := List.mem_map.1 hv
    have hkr : k < r.length := by rw [h.len r hr]; exact hk
    have e2 : r.getD k v0 = r[k] := by simp [List.getD, hkr]
    rw [e2]; exact h.rg r hr _ (List.getElem_mem _)
/-- the data of a granule's frames -/
def granD (ts : List Int) (g : List RowV) : List (List Int) := (List.range ts.length).map fun (k : Nat) => dataL (ts.getD k 0) (colL g (k : Int))
theorem granD_len (ts : List Int) (g : List RowV) : (granD ts g).length = ts.length := by simp [granD]
theorem flat_len (ts : List Int) : ∀ (gs : List (List RowV)), (gs.flatMap (granD ts)).length = gs.length * ts.length
  | [] => by simp
  | g :: gs => by rw [List.flatMap_cons, List.length_append, granD_len, flat_len ts gs, List.length_cons, Nat.succ_mul, Nat.add_comm]
theorem flat_at (ts : List Int) : ∀ (gs : List (List RowV)) (i : Nat), i < gs.length * ts.length → (gs.flatMap (granD ts)).getD i [] = dataL (ts.getD (i % ts.length) 0) (colL (gs.getD (i / ts.length) []) ((i % ts.length : Nat) : Int))
  | [], i, h => by simp at h
  | g :: gs, i, h => by
    rw [List.flatMap_cons]
    by_cases hi : i < ts.length
    · rw [Nat.mod_eq_of_lt hi, Nat.div_eq_of_lt hi]
      rw [List.getD_eq_getElem?_getD, List.getElem?_append_left (by rw [granD_len]; exact hi)]
      simp [granD, hi]
    · obtain ⟨q, rfl⟩ : ∃ q, i = ts.length + q := ⟨i - ts.length, by omega⟩
      have hT : 0 < ts.length := by
        rcases Nat.eq_zero_or_pos ts.length with h0 | h0
        · rw [h0] at h; simp at h
        · exact h0
      rw [List.getD_eq_getElem?_getD, List.getElem?_append_right (by rw [granD_len]; omega), granD_len, Nat.add_sub_cancel_left, ← List.getD_eq_getElem?_getD]
      rw [flat_at ts gs q (by rw [List.length_cons, Nat.succ_mul] at h; omega)]
      rw [Nat.add_mod_left, Nat.add_div_left _ hT]
      rfl
theorem gran_inj {ts : List Int} {g g' : List RowV} (h : RowsOk ts g) (h' : RowsOk ts g') (ht : ∀ x ∈ ts, 1 ≤ x ∧ x ≤ 3) (hT : 1 ≤ ts.length) (hn : g.length ≤ 2000) (hn' : g'.length ≤ 2000) (e : granD ts g = granD ts g') : g = g' := by
  have each : ∀ k, k < ts.length → colL g (k : Int) = colL g' (k : Int) := fun k hk => by
    have e1 := congrArg (fun z : List (List Int) => z.getD k []) e
    simp [granD, hk] at e1
    obtain ⟨a1, a2, -⟩ := h.colB ht hn hk
    obtain ⟨b1, b2, -⟩ := h'.colB ht hn' hk
    have e3 : ts[k] = ts.getD k 0 := by simp [List.getD, hk]
    rw [e3] at e1
    exact data_inj a1 b1 a2 b2 e1
  have hl : g.length = g'.length := by
    rw [← (h.colB ht hn hT).2.2, ← (h'.colB ht hn' hT).2.2]
    exact congrArg List.length (each 0 hT)
  have r1 := rows_back h.len
  have r2 := rows_back h'.len
  rw [← r1, ← r2, hl]
  congr 1
  refine List.map_congr_left (fun k hk => each k (List.mem_range.1 hk))
theorem flat_inj {ts : List Int} (ht : ∀ x ∈ ts, 1 ≤ x ∧ x ≤ 3) (hT : 1 ≤ ts.length) : ∀ (gs gs' : List (List RowV)), (∀ g ∈ gs, RowsOk ts g ∧ g.length ≤ 2000) → (∀ g ∈ gs', RowsOk ts g ∧ g.length ≤ 2000) → gs.flatMap (granD ts) = gs'.flatMap (granD ts) → gs = gs'
  | [], [], _, _, _ => rfl
  | [], g :: gs, _, _, e => by
    have := congrArg List.length e
    rw [flat_len, flat_len, List.length_cons, Nat.succ_mul, List.length_nil, Nat.zero_mul] at this
    omega
  | g :: gs, [], _, _, e => by
    have := congrArg List.length e
    rw [flat_len, flat_len, List.length_cons, Nat.succ_mul, List.length_nil, Nat.zero_mul] at this
    omega
  | g :: gs, g' :: gs', h, h', e => by
    rw [List.flatMap_cons, List.flatMap_cons] at e
    obtain ⟨e1, e2⟩ := List.append_inj e (by rw [granD_len, granD_len])
    have a := h g (List.mem_cons_self ..)
    have b := h' g' (List.mem_cons_self ..)
    rw [gran_inj a.1 b.1 ht hT a.2 b.2 e1, flat_inj ht hT gs gs' (fun x hx => h x (List.mem_cons_of_mem _ hx)) (fun x hx => h' x (List.mem_cons_of_mem _ hx)) e2]
theorem split_ok {ts : List Int} {G : Nat} {l : List RowV} (h : RowsOk ts l) (hn : l.length ≤ 2000) : ∀ g ∈ splitL G l, RowsOk ts g ∧ g.length ≤ 2000 := by
  intro g hg
  obtain ⟨i, _, rfl⟩ := List.mem_map.1 hg
  refine ⟨h.sub (fun r hr => List.mem_of_mem_drop (List.mem_of_mem_take hr)), ?_⟩
  rw [gran_len]; omega
/-- granules tell the rows -/
theorem split_tells {G : Nat} (hG : 0 < G) {l l' : List RowV} (h : splitL G l = splitL G l') : l = l' := by rw [← split_flat hG l, ← split_flat hG l', h]
/-- the data of the marks' frames -/
def marksD (ts : List Int) (K : Nat) (ms : List RowV) : List (List Int) := (List.range K).map fun (k : Nat) => dataL (ts.getD k 0) (colL ms (k : Int))
theorem marksD_len (ts : List Int) (K : Nat) (ms : List RowV) : (marksD ts K ms).length = K := by simp [marksD]
/-- the head's and the granules' frames -/
def bodyD (ts : List Int) (G : Nat) (l : List RowV) : List (List Int) := (splitL G l).flatMap (granD ts)
def frontD (ts : List Int) (K : Nat) (m : Int) (G : Nat) (gs : List (List RowV)) : List (List Int) := putS ts (K : Int) m (G : Int) :: gs.flatMap (granD ts)
/-- where the marks begin -/
def fromN (ts : List Int) (K : Nat) (m : Int) (G : Nat) (l : List RowV) : Nat := (frsL (frontD ts K m G (splitL G l))).length
/-- where each granule begins -/
def placesV (ts : List Int) (K : Nat) (m : Int) (G : Nat) (l : List RowV) : List (Int × ByteArray) := (List.range (cntG G l.length)).map fun i => (((frsL (frontD ts K m G ((splitL G l).take i))).length : Int), ⟨#[]⟩)
/-- all the frames of a part -/
def partD (ts : List Int) (K : Nat) (m : Int) (G : Nat) (l : List RowV) : List (List Int) := putS ts (K : Int) m (G : Int) :: (bodyD ts G l ++ (marksD ts K (marksL G K l) ++ [dataL 2 (placesV ts K m G l)]))
/-- a part's bytes -/
def partL (ts : List Int) (K : Nat) (m : Int) (G : Nat) (l : List RowV) : List Int := frsL (partD ts K m G l) ++ w8 (fromN ts K m G l : Int)
end Go.Proofs.YtbfihajgjbpmaaaGreat
/- Stage 11, plain: any one byte of a part that is changed is told. -/
namespace Go.Proofs.YtbfihajgjbpmaaaGreat
set_option linter.unusedVariables false
set_option maxRecDepth 4000

/-- a schema and rows that may be written (but for their order) -/
structure PartOk (ts : List Int) (K : Nat) (m : Int) (G : Nat) (l : List RowV) : Prop where
  check : checkB ts (K : Int) m (G : Int) = true
  some : 1 ≤ l.length
  most : l.length ≤ 2000
  rows : RowsOk ts l
theorem PartOk.nums {ts : List Int} {K : Nat} {m : Int} {G : Nat} {l : List RowV} (h : PartOk ts K m G l) : (1 ≤ ts.length ∧ ts.length ≤ 64) ∧ (1 ≤ K ∧ K ≤ ts.length) ∧ (1 ≤ G ∧ G ≤ 64) ∧ ∀ x ∈ ts, 1 ≤ x ∧ x ≤ 3 := by
  obtain ⟨h1, h2, h3, h4, h5, h6, h7, h8, h9⟩ := check_is h.check
  exact ⟨⟨h1, h2⟩, by omega, by omega, h9⟩
theorem marks_ok {ts : List Int} {K G : Nat} {l : List RowV} (h : RowsOk ts l) (hK : K ≤ ts.length) (hG : 0 < G) : RowsOk (ts.take K) (marksL G K l) := by
  have at_ : ∀ r ∈ marksL G K l, ∃ x ∈ l, r = x.take K := fun r hr => by
    obtain ⟨i, hi, rfl⟩ := List.mem_map.1 hr
    have h0 := (cnt_lt hG).1 (List.mem_range.1 hi)
    have e : l.getD (i * G) [] = l[i * G] := by simp [List.getD, h0]
    exact ⟨l[i * G], List.getElem_mem _, by rw [e]⟩
  refine ⟨fun r hr => ?_, fun r hr k hk => ?_, fun r hr => ?_⟩
  · obtain ⟨x, hx, rfl⟩ := at_ r hr
    rw [List.length_take, List.length_take, h.len x hx]
  · obtain ⟨x, hx, rfl⟩ := at_ r hr
    rw [List.length_take] at hk
    have e1 : (ts.take K).getD k 0 = ts.getD k 0 := by rw [List.getD_eq_getElem?_getD, List.getElem?_take_of_lt (by omega), ← List.getD_eq_getElem?_getD]
    have e2 : (x.take K).getD k v0 = x.getD k v0 := by rw [List.getD_eq_getElem?_getD, List.getElem?_take_of_lt (by omega), ← List.getD_eq_getElem?_getD]
    rw [e1, e2]
    exact h.fit x hx k (by omega)
  · obtain ⟨x, hx, rfl⟩ := at_ r hr
    exact fun v hv => h.rg x hx v (List.mem_of_mem_take hv)
theorem marks_col {ts : List Int} {K G : Nat} {l : List RowV} (h : RowsOk ts l) (hK : K ≤ ts.length) (hG : 0 < G) (ht : ∀ x ∈ ts, 1 ≤ x ∧ x ≤ 3) (hn : cntG G l.length ≤ 2000) {k : Nat} (hk : k < K) :
    colB (ts.getD k 0) (colL (marksL G K l) (k : Int)) = true ∧ RgV (colL (marksL G K l) (k : Int)) ∧ (colL (marksL G K l) (k : Int)).length = cntG G l.length := by
  have := (marks_ok h hK hG).colB (fun x hx => ht x (List.mem_of_mem_take hx)) (by rw [marksL_len]; exact hn) (k := k) (by rw [List.length_take]; omega)
  have e1 : (ts.take K).getD k 0 = ts.getD k 0 := by rw [List.getD_eq_getElem?_getD, List.getElem?_take_of_lt (by omega), ← List.getD_eq_getElem?_getD]
  rw [e1, marksL_len] at this
  exact this
theorem cntG_le {G j : Nat} (hG : 1 ≤ G) : cntG G j ≤ j := by
  by_cases h0 : cntG G j = 0
  · omega
  · have := (cnt_lt (i := cntG G j - 1) (n := j) hG).1 (by omega)
    have h2 : (cntG G j - 1) * 1 ≤ (cntG G j - 1) * G := Nat.mul_le_mul_left _ hG
    omega
theorem frs_most : ∀ (ds : List (List Int)), (∀ d ∈ ds, d.length ≤ 500001) → (frsL ds).length ≤ ds.length * 500015
  | [], _ => by simp [frsL]
  | d :: ds, h => by
    have h1 := frs_most ds (fun x hx => h x (List.mem_cons_of_mem _ hx))
    have h2 := h d (List.mem_cons_self ..)
    have h3 := pv_len10 (x := (d.length : Int)) (by omega)
    rw [frsL, List.length_append, frameL_len, List.length_cons, Nat.succ_mul]
    omega
theorem schema_byt {ts : List Int} {K m g : Int} (h : checkB ts K m g = true) : Byt (putS ts K m g) := by
  obtain ⟨h1, h2, h3, h4, h5, h6, h7, h8, h9⟩ := check_is h
  rw [(schema_small h).1]
  intro x hx
  simp only [schemaN, List.mem_cons, List.mem_append, List.not_mem_nil, or_false] at hx
  rcases hx with rfl | hx | rfl | rfl | rfl
  · omega
  · have := h9 x hx; omega
  · omega
  · omega
  · omega
theorem PartOk.front {ts : List Int} {K : Nat} {m : Int} {G : Nat} {l : List RowV} (h : PartOk ts K m G l) {gs : List (List RowV)} (hs : ∀ g ∈ gs, g ∈ splitL G l) : ∀ d ∈ frontD ts K m G gs, Byt d ∧ d.length ≤ 500001 := by
  intro d hd
  obtain ⟨n1, n2, n3, n4⟩ := h.nums
  rcases List.mem_cons.1 hd with rfl | hd
  · exact ⟨schema_byt h.check, by have := (schema_small h.check).2; omega⟩
  · obtain ⟨g, hg, hd⟩ := List.mem_flatMap.1 hd
    obtain ⟨k, hk, rfl⟩ := List.mem_map.1 hd
    have hgo := split_ok h.rows h.most g (hs g hg)
    have hc := (hgo.1.colB n4 hgo.2 (List.mem_range.1 hk)).1
    exact ⟨data_bytes hc, (data_len hc).2⟩
theorem PartOk.front_len {ts : List Int} {K : Nat} {m : Int} {G : Nat} {l : List RowV} (h : PartOk ts K m G l) {gs : List (List RowV)} (hs : ∀ g ∈ gs, g ∈ splitL G l) (hn : gs.length ≤ 2000) : (frsL (frontD ts K m G gs)).length ≤ 128001 * 500015 := by
  have h1 := frs_most _ (fun d hd => (h.front hs d hd).2)
  have h2 : (frontD ts K m G gs).length ≤ 128001 := by
    unfold frontD
    rw [List.length_cons, flat_len]
    have : gs.length * ts.length ≤ 2000 * 64 := Nat.mul_le_mul hn h.nums.1.2
    omega
  exact Nat.le_trans h1 (Nat.mul_le_mul_right 500015 h2)
theorem PartOk.places {ts : List Int} {K : Nat} {m : Int} {G : Nat} {l : List RowV} (h : PartOk ts K m G l) : colB 2 (placesV ts K m G l) = true ∧ RgV (placesV ts K m G l) := by
  have hcn := cntG_le (G := G) (j := l.length) h.nums.2.2.1.1
  have e : placesV ts K m G l = ofN ((List.range (cntG G l.length)).map fun i => (((frsL (frontD ts K m G ((splitL G l).take i))).length : Nat) : Int)) := by
    unfold placesV ofN
    rw [List.map_map]; rfl
  rw [e]
  refine ⟨colB_ofN (.inr rfl) (by rw [List.length_map, List.length_range]; have := h.most; omega), ofN_rg (fun x hx => ?_)⟩
  obtain ⟨i, hi, rfl⟩ := List.mem_map.1 hx
  have := h.front_len (gs := (splitL G l).take i) (fun g hg => List.mem_of_mem_take hg) (by rw [List.length_take, splitL_len]; have := h.most; omega)
  omega
theorem PartOk.data {ts : List Int} {K : Nat} {m : Int} {G : Nat} {l : List RowV} (h : PartOk ts K m G l) : ∀ d ∈ partD ts K m G l, Byt d ∧ d.length ≤ 500001 := by
  intro d hd
  obtain ⟨n1, n2, n3, n4⟩ := h.nums
  have hcn := cntG_le (G := G) (j := l.length) n3.1
  have hmost := h.most
  have fr := h.front (gs := splitL G l) (fun g hg => hg)
  rcases List.mem_cons.1 hd with rfl | hd
  · exact fr _ (List.mem_cons_self ..)
  · rcases List.mem_append.1 hd with hd | hd
    · exact fr d (List.mem_cons_of_mem _ hd)
    · rcases List.mem_append.1 hd with hd | hd
      · obtain ⟨k, hk, rfl⟩ := List.mem_map.1 hd
        have hc := (marks_col h.rows n2.2 n3.1 n4 (by omega) (List.mem_range.1 hk)).1
        exact ⟨data_bytes hc, (data_len hc).2⟩
      · rw [List.mem_singleton.1 hd]
        exact ⟨data_bytes h.places.1, (data_len h.places.1).2⟩
theorem PartOk.sm {ts : List Int} {K : Nat} {m : Int} {G : Nat} {l : List RowV} (h : PartOk ts K m G l) : SmF (partD ts K m G l) := fun d hd => by have := (h.data d hd).2; omega
theorem PartOk.from_le {ts : List Int} {K : Nat} {m : Int} {G : Nat} {l : List RowV} (h : PartOk ts K m G l) : fromN ts K m G l ≤ 128001 * 500015 :=
  h.front_len (gs := splitL G l) (fun g hg => hg) (by rw [splitL_len]; have := cntG_le (G := G) (j := l.length) h.nums.2.2.1.1; have := h.most; omega)
theorem part_split (ts : List Int) (K : Nat) (m : Int) (G : Nat) (l : List RowV) : partD ts K m G l = frontD ts K m G (splitL G l) ++ (marksD ts K (marksL G K l) ++ [dataL 2 (placesV ts K m G l)]) := rfl
/-- the same frames: the same place of the marks -/
theorem from_of {ts ts' : List Int} {K K' : Nat} {m m' : Int} {G G' : Nat} {l l' : List RowV} (h : PartOk ts K m G l) (h' : PartOk ts' K' m' G' l') (e : partD ts K m G l = partD ts' K' m' G' l') : fromN ts K m G l = fromN ts' K' m' G' l' := by
  obtain ⟨e1, e2⟩ := List.cons.inj e
  obtain ⟨rfl, hK, rfl, hG⟩ := putS_inj h.check h'.check e1
  obtain rfl : K = K' := by omega
  obtain rfl : G = G' := by omega
  have hl := congrArg List.length e2
  simp only [List.length_append, marksD_len, List.length_singleton] at hl
  obtain ⟨e3, -⟩ := List.append_inj e2 (by omega)
  unfold fromN frontD
  have e4 : (splitL G l).flatMap (granD ts) = (splitL G l').flatMap (granD ts) := e3
  rw [e4]
end Go.Proofs.YtbfihajgjbpmaaaGreat
/- Stage 11, plain: any one byte of a part that is changed is told (granules of no more than 8 rows). -/
namespace Go.Proofs.YtbfihajgjbpmaaaGreat
set_option linter.unusedVariables false
set_option maxRecDepth 4000

theorem get_mid {α : Type} (d0 : α) (p : List α) (d : α) (q : List α) : (p ++ d :: q).getD p.length d0 = d := by
  rw [List.getD_eq_getElem?_getD, List.getElem?_append_right (Nat.le_refl _), Nat.sub_self]; rfl
theorem frs_pos {d : List Int} {q : List (List Int)} : 1 ≤ (frsL (d :: q)).length := by rw [frsL, List.length_append]; have := frame_pos d; omega
/-- the granule's frame number i -/
theorem body_at {ts : List Int} {G : Nat} {l : List RowV} (h : RowsOk ts l) (hG : 0 < G) (hn : l.length ≤ 2000) (ht : ∀ x ∈ ts, 1 ≤ x ∧ x ≤ 3) {i : Nat} (hi : i < (bodyD ts G l).length) :
    ∃ f, (bodyD ts G l).getD i [] = dataL (ts.getD (i % ts.length) 0) f ∧ colB (ts.getD (i % ts.length) 0) f = true ∧ RgV f ∧ 1 ≤ f.length ∧ f.length ≤ G := by
  unfold bodyD at hi ⊢
  rw [flat_len, splitL_len] at hi
  have hT : 0 < ts.length := by
    rcases Nat.eq_zero_or_pos ts.length with h0 | h0
    · rw [h0] at hi; simp at hi
    · exact h0
  have hdiv : i / ts.length < cntG G l.length := Nat.div_lt_of_lt_mul (by rw [Nat.mul_comm]; exact hi)
  have hmod := Nat.mod_lt i hT
  rw [flat_at ts _ i (by rw [splitL_len]; exact hi), splitL_at hdiv]
  have hg := split_ok (G := G) h hn (granL G l (i / ts.length)) (List.mem_map.2 ⟨_, List.mem_range.2 hdiv, rfl⟩)
  obtain ⟨c1, c2, c3⟩ := hg.1.colB ht hg.2 hmod
  have hgi := gran_in hG hdiv
  exact ⟨_, rfl, c1, c2, by rw [c3]; exact hgi.1, by rw [c3]; exact hgi.2.1⟩
theorem part_told {ts ts' : List Int} {K K' : Nat} {m m' : Int} {G G' : Nat} {l l' : List RowV} (h : PartOk ts K m G l) (h' : PartOk ts' K' m' G' l') (hG8 : G ≤ 8) {k : Nat} {c : Int} (hk : k < (partL ts K m G l).length) (hc : 0 ≤ c ∧ c ≤ 255)
    (hne : c ≠ (partL ts K m G l).getD k 0) (e : partL ts' K' m' G' l' = (partL ts K m G l).set k c) : False := by
  have hF := h.from_le
  have hF' := h'.from_le
  have hsame : partL ts' K' m' G' l' = partL ts K m G l → False := fun q => by
    rw [q] at e
    exact hne (set_same hk e.symm)
  have hlen : (frsL (partD ts' K' m' G' l')).length = (frsL (partD ts K m G l)).length := by
    have := congrArg List.length e
    unfold partL at this
    rw [List.length_set, List.length_append, List.length_append, w8_len, w8_len] at this
    omega
  have sm := h.sm
  have sm' := h'.sm
  unfold partL at e hk hne
  by_cases hkn : k < (frsL (partD ts K m G l)).length
  · obtain ⟨p, d, q, j, e1, e2, e3⟩ := frs_at _ k hkn
    rw [get_app_l hkn] at hne
    rw [set_app_l c hkn] at e
    obtain ⟨ea, eb⟩ := List.append_inj e (by rw [List.length_set, hlen])
    have hFF : fromN ts' K' m' G' l' = fromN ts K m G l := by have := w8_inj (by omega) (by omega) eb; omega
    subst e2
    have e4 : frsL (partD ts K m G l) = frsL p ++ (frameL d ++ frsL q) := by rw [e1, frsL_app]; rfl
    rw [e4] at ea hne
    rw [set_app_r, set_app_l c e3] at ea
    rw [get_app_r, get_app_l e3] at hne
    have smp : SmF p := fun x hx => sm x (by rw [e1]; exact List.mem_append_left _ hx)
    have hpl : (frsL p).length ≤ (frsL (partD ts' K' m' G' l')).length := by rw [ea, List.length_append]; omega
    obtain ⟨cc, f1, f2⟩ := frs_cut p _ smp sm' (r := (frameL d).set j c ++ frsL q) (r' := []) (by rw [List.append_nil, ea]) hpl
    rw [List.append_nil] at f2
    have hd := h.data d (by rw [e1]; exact List.mem_append_right _ (List.mem_cons_self ..))
    match cc, f1, f2 with
    | [], f1, f2 =>
      have := congrArg List.length f2
      rw [List.length_append, List.length_set, show frsL ([] : List (List Int)) = [] from rfl, List.length_nil] at this
      have := frame_pos d
      omega
    | d' :: q', f1, f2 =>
      have hd' := h'.data d' (by rw [f1]; exact List.mem_append_right _ (List.mem_cons_self ..))
      rw [frsL] at f2
      by_cases hj : (pv (d.length : Int)).length ≤ j
      · exact frame_told (by omega) (by omega) hd.1 hd'.1 hc hj e3 hne f2.symm
      · replace hj : j < (pv (d.length : Int)).length := by omega
        match p, e1, f1, hpl, smp with
        | [], e1, f1, _, _ =>
          obtain ⟨a1, -⟩ := List.cons.inj e1
          obtain ⟨b1, -⟩ := List.cons.inj f1
          rw [← a1] at hj hne f2
          rw [← b1] at f2
          exact head_told h.check h'.check hj hne f2.symm
        | hd0 :: p', e1, f1, hpl, smp =>
          obtain ⟨a1, a2'⟩ := List.cons.inj e1
          obtain ⟨b1, b2'⟩ := List.cons.inj f1
          have a2 : bodyD ts G l ++ (marksD ts K (marksL G K l) ++ [dataL 2 (placesV ts K m G l)]) = p' ++ d :: q := a2'
          have b2 : bodyD ts' G' l' ++ (marksD ts' K' (marksL G' K' l') ++ [dataL 2 (placesV ts' K' m' G' l')]) = p' ++ d' :: q' := b2'
          clear a2' b2'
          obtain ⟨rfl, hK, rfl, hG⟩ := putS_inj h.check h'.check (a1.trans b1.symm)
          obtain rfl : K = K' := by omega
          obtain rfl : G = G' := by omega
          obtain ⟨n1, n2, n3, n4⟩ := h.nums
          have efr : ∀ x, fromN ts K m G x = (frameL hd0).length + (frsL (bodyD ts G x)).length := fun x => by
            unfold fromN frontD
            rw [frsL, List.length_append, a1]; rfl
          by_cases hp : p'.length < (bodyD ts G l).length
          · have hp2 : p'.length < (bodyD ts G l').length := by
              by_cases hp2 : p'.length < (bodyD ts G l').length
              · exact hp2
              · exfalso
                -- what lies ahead of the frame
                have g1 : (bodyD ts G l').length ≤ p'.length := by omega
                have g2 : ∃ x, p' = bodyD ts G l' ++ x := by
                  have := congrArg (List.take (bodyD ts G l').length) b2
                  rw [List.take_left, List.take_append_of_le_length g1] at this
                  generalize (bodyD ts G l').length = z at this
                  exact ⟨p'.drop z, by rw [this, List.take_append_drop]⟩
                obtain ⟨x, hx⟩ := g2
                have g3 : ∃ y, bodyD ts G l = p' ++ d :: y := by
                  have g4 := congrArg (List.take (bodyD ts G l).length) a2
                  rw [List.take_left, List.take_append, List.take_of_length_le (by omega)] at g4
                  obtain ⟨z, hz⟩ : ∃ z, (bodyD ts G l).length - p'.length = z + 1 := ⟨(bodyD ts G l).length - p'.length - 1, by omega⟩
                  rw [hz, List.take_succ_cons] at g4
                  exact ⟨_, g4⟩
                obtain ⟨y, hy⟩ := g3
                have t1 := efr l
                have t2 := efr l'
                rw [hy, frsL_app, List.length_append] at t1
                have t3 := frs_pos (d := d) (q := y)
                have t4 : (frsL p').length = (frsL (bodyD ts G l')).length + (frsL x).length := by rw [hx, frsL_app, List.length_append]
                omega
            obtain ⟨f, x1, x2, x3, x4, x5⟩ := body_at h.rows n3.1 h.most n4 hp
            obtain ⟨f', y1, y2, y3, y4, y5⟩ := body_at h'.rows n3.1 h'.most n4 hp2
            have z1 : d = (bodyD ts G l).getD p'.length [] := by
              have := congrArg (fun z : List (List Int) => z.getD p'.length []) a2
              simp only [get_mid] at this
              rw [← this, List.getD_eq_getElem?_getD, List.getElem?_append_left hp, ← List.getD_eq_getElem?_getD]
            have z2 : d' = (bodyD ts G l').getD p'.length [] := by
              have := congrArg (fun z : List (List Int) => z.getD p'.length []) b2
              simp only [get_mid] at this
              rw [← this, List.getD_eq_getElem?_getD, List.getElem?_append_left hp2, ← List.getD_eq_getElem?_getD]
            rw [z1, x1] at hj hne f2
            rw [z2, y1] at f2
            exact len_told x2 y2 x3 y3 ⟨x4, by omega⟩ ⟨y4, by omega⟩ hj hne f2.symm
          · have g1 : (bodyD ts G l).length ≤ p'.length := by omega
            obtain ⟨x, hx⟩ : ∃ x, p' = bodyD ts G l ++ x := by
              have := congrArg (List.take (bodyD ts G l).length) a2
              rw [List.take_left, List.take_append_of_le_length g1] at this
              generalize (bodyD ts G l).length = z at this
              exact ⟨p'.drop z, by rw [this, List.take_append_drop]⟩
            rw [hx, List.append_assoc] at b2
            have t1 := efr l
            have t2 := efr l'
            have hbl : (frsL (bodyD ts G l')).length = (frsL (bodyD ts G l)).length := by omega
            have smB : SmF (bodyD ts G l) := fun x hx => sm x (List.mem_cons_of_mem _ (List.mem_append_left _ hx))
            have smB' : SmF (bodyD ts G l') := fun x hx => sm' x (List.mem_cons_of_mem _ (List.mem_append_left _ hx))
            have hbb : bodyD ts G l' = bodyD ts G l := by
              have b3 := congrArg frsL b2
              rw [frsL_app, frsL_app (bodyD ts G l)] at b3
              exact frs_inj smB' smB (List.append_inj b3 hbl).1
            have hll : splitL G l' = splitL G l := flat_inj n4 n1.1 _ _ (split_ok h'.rows h'.most) (split_ok h.rows h.most) hbb
            have := split_tells n3.1 hll
            exact hsame (by rw [this])
  · obtain ⟨i, rfl⟩ : ∃ i, k = (frsL (partD ts K m G l)).length + i := ⟨k - (frsL (partD ts K m G l)).length, by omega⟩
    rw [set_app_r] at e
    obtain ⟨ea, -⟩ := List.append_inj e hlen
    have hD := frs_inj sm' sm ea
    have hFF := from_of h' h hD
    refine hsame ?_
    unfold partL
    rw [hD, hFF]
end Go.Proofs.YtbfihajgjbpmaaaGreat
/- Stage 11, plain: a part of a part's bytes, or more than they, is no part. -/
namespace Go.Proofs.YtbfihajgjbpmaaaGreat
set_option linter.unusedVariables false
set_option maxRecDepth 4000

/-- a frame that is no head begins with its type -/
theorem tail_type {ts : List Int} {K : Nat} {m : Int} {G : Nat} {l : List RowV} (h : PartOk ts K m G l) {d : List Int} (hd : d ∈ bodyD ts G l ++ (marksD ts K (marksL G K l) ++ [dataL 2 (placesV ts K m G l)])) : ∃ t r, d = t :: r ∧ 1 ≤ t ∧ t ≤ 3 := by
  obtain ⟨n1, n2, n3, n4⟩ := h.nums
  have ty : ∀ k, k < ts.length → 1 ≤ ts.getD k 0 ∧ ts.getD k 0 ≤ 3 := fun k hk => by
    have e : ts.getD k 0 = ts[k] := by simp [List.getD, hk]
    rw [e]; exact n4 _ (List.getElem_mem _)
  rcases List.mem_append.1 hd with hd | hd
  · obtain ⟨g, hg, hd⟩ := List.mem_flatMap.1 hd
    obtain ⟨k, hk, rfl⟩ := List.mem_map.1 hd
    exact ⟨_, _, rfl, ty k (List.mem_range.1 hk)⟩
  · rcases List.mem_append.1 hd with hd | hd
    · obtain ⟨k, hk, rfl⟩ := List.mem_map.1 hd
      have := List.mem_range.1 hk
      exact ⟨_, _, rfl, ty k (by omega)⟩
    · rw [List.mem_singleton.1 hd]
      exact ⟨_, _, rfl, by omega⟩
/-- the upper bytes of a place are none -/
theorem place_high {x : Nat} (hx : x ≤ 128001 * 500015) {i : Nat} (h5 : 5 ≤ i) (h8 : i < 8) : (w8 (x : Int)).getD i 0 = 0 := by
  have e : (w8 (x : Int)).getD i 0 = d8 (x : Int) i := by simp [w8, List.getD, h8]
  rw [e]
  unfold d8
  have : i = 5 ∨ i = 6 ∨ i = 7 := by omega
  rcases this with rfl | rfl | rfl <;> omega
theorem part_cut {ts ts' : List Int} {K K' : Nat} {m m' : Int} {G G' : Nat} {l l' : List RowV} (h : PartOk ts K m G l) (h' : PartOk ts' K' m' G' l') {r : Nat} (hr : r < (partL ts K m G l).length) (e : partL ts' K' m' G' l' = (partL ts K m G l).take r) : False := by
  have hF' := h'.from_le
  have e2 : partL ts K m G l = partL ts' K' m' G' l' ++ (partL ts K m G l).drop r := by rw [e, List.take_append_drop]
  have hl := congrArg List.length e
  rw [List.length_take, Nat.min_eq_left (by omega)] at hl
  generalize (partL ts K m G l).drop r = rest at e2
  unfold partL at e2 hl hr
  rw [List.length_append, w8_len] at hl hr
  rw [List.append_assoc] at e2
  obtain ⟨c, f1, f2⟩ := frs_cut _ _ h'.sm h.sm e2.symm (by omega)
  match c, f1, f2 with
  | [], f1, f2 =>
    rw [List.append_nil] at f1
    rw [f1] at hr
    omega
  | d :: c, f1, f2 =>
    have hd := h.data d (by rw [f1]; exact List.mem_append_right _ (List.mem_cons_self ..))
    have f3 : bodyD ts G l ++ (marksD ts K (marksL G K l) ++ [dataL 2 (placesV ts K m G l)]) = (bodyD ts' G' l' ++ (marksD ts' K' (marksL G' K' l') ++ [dataL 2 (placesV ts' K' m' G' l')])) ++ d :: c := (List.cons.inj f1).2
    obtain ⟨t, q, rfl, ht⟩ := tail_type h (d := d) (by rw [f3]; exact List.mem_append_right _ (List.mem_cons_self ..))
    have hp1 := pv_pos (((t :: q).length : Nat) : Int)
    have hp3 := pv_len 2 (((t :: q).length : Nat) : Int) (by have := hd.2; omega)
    have e3 := congrArg (fun z : List Int => z.getD ((pv (((t :: q).length : Nat) : Int)).length + 4) 0) f2
    rw [get_app_l (by rw [w8_len]; omega), place_high hF' (by omega) (by omega)] at e3
    have e5 : frsL ((t :: q) :: c) ++ w8 (fromN ts K m G l : Int) = pv (((t :: q).length : Nat) : Int) ++ (sealL (t :: q) ++ ((t :: q) ++ (frsL c ++ w8 (fromN ts K m G l : Int)))) := by
      rw [frsL, frameL]; simp only [List.append_assoc]
    rw [e5] at e3
    have e6 := get_app_r (a := pv (((t :: q).length : Nat) : Int)) (b := sealL (t :: q) ++ ((t :: q) ++ (frsL c ++ w8 (fromN ts K m G l : Int)))) (i := 4)
    rw [e6] at e3
    have e4 : ((sealL (t :: q)) ++ ((t :: q) ++ (frsL c ++ w8 (fromN ts K m G l : Int)))).getD 4 0 = t := by
      have := get_app_r (a := sealL (t :: q)) (b := (t :: q) ++ (frsL c ++ w8 (fromN ts K m G l : Int))) (i := 0)
      rw [sealL_len] at this
      rw [this]; rfl
    rw [e4] at e3
    omega
theorem part_more {ts ts' : List Int} {K K' : Nat} {m m' : Int} {G G' : Nat} {l l' : List RowV} (h : PartOk ts K m G l) (h' : PartOk ts' K' m' G' l') {x : List Int} (hx : x ≠ []) (e : partL ts' K' m' G' l' = partL ts K m G l ++ x) : False := by
  have hx1 : 1 ≤ x.length := by
    cases x with
    | nil => exact absurd rfl hx
    | cons a b => simp
  refine part_cut h' h (r := (partL ts K m G l).length) ?_ ?_
  · rw [e, List.length_append]; omega
  · rw [e, List.take_left]
/-- a part tells its schema and its rows -/
theorem part_inj {ts ts' : List Int} {K K' : Nat} {m m' : Int} {G G' : Nat} {l l' : List RowV} (h : PartOk ts K m G l) (h' : PartOk ts' K' m' G' l') (e : partL ts K m G l = partL ts' K' m' G' l') : ts = ts' ∧ K = K' ∧ m = m' ∧ G = G' ∧ l = l' := by
  have hl := congrArg List.length e
  unfold partL at e hl
  rw [List.length_append, List.length_append, w8_len, w8_len] at hl
  obtain ⟨ea, eb⟩ := List.append_inj e (by omega)
  have hD := frs_inj h.sm h'.sm ea
  obtain ⟨e1, e2⟩ := List.cons.inj hD
  obtain ⟨rfl, hK, rfl, hG⟩ := putS_inj h.check h'.check e1
  obtain rfl : K = K' := by omega
  obtain rfl : G = G' := by omega
  obtain ⟨n1, n2, n3, n4⟩ := h.nums
  have hl2 := congrArg List.length e2
  simp only [List.length_append, marksD_len, List.length_singleton] at hl2
  obtain ⟨e3, -⟩ := List.append_inj e2 (by omega)
  exact ⟨rfl, rfl, rfl, rfl, split_tells n3.1 (flat_inj n4 n1.1 _ _ (split_ok h.rows h.most) (split_ok h'.rows h'.most) e3)⟩
end Go.Proofs.YtbfihajgjbpmaaaGreat
/- Stage 11, plain: where the blocks of a part lie, and how many bytes it has. -/
namespace Go.Proofs.YtbfihajgjbpmaaaGreat
set_option linter.unusedVariables false
set_option maxRecDepth 4000

/-- where the granule i begins -/
def placeN (ts : List Int) (K : Nat) (m : Int) (G : Nat) (l : List RowV) (i : Nat) : Nat := (frsL (frontD ts K m G ((splitL G l).take i))).length
theorem place_zero (ts : List Int) (K : Nat) (m : Int) (G : Nat) (l : List RowV) : placeN ts K m G l 0 = (frameL (putS ts (K : Int) m (G : Int))).length := by
  unfold placeN frontD
  rw [List.take_zero, List.flatMap_nil, frsL, frsL, List.append_nil]
theorem front_snoc (ts : List Int) (K : Nat) (m : Int) (G : Nat) (gs : List (List RowV)) (g : List RowV) : frontD ts K m G (gs ++ [g]) = frontD ts K m G gs ++ granD ts g := by
  unfold frontD
  rw [List.flatMap_append, List.flatMap_cons, List.flatMap_nil, List.append_nil]; rfl
theorem splitL_take {G : Nat} {l : List RowV} {i : Nat} (h : i < cntG G l.length) : (splitL G l).take (i + 1) = (splitL G l).take i ++ [granL G l i] := by
  rw [List.take_succ_eq_append_getElem (by rw [splitL_len]; exact h)]
  simp [splitL]
theorem place_next {ts : List Int} {K : Nat} {m : Int} {G : Nat} {l : List RowV} {i : Nat} (h : i < cntG G l.length) : placeN ts K m G l (i + 1) = placeN ts K m G l i + (frsL (granD ts (granL G l i))).length := by
  unfold placeN
  rw [splitL_take h, front_snoc, frsL_app, List.length_append]
theorem place_end {ts : List Int} {K : Nat} {m : Int} {G : Nat} {l : List RowV} {i : Nat} (h : cntG G l.length ≤ i) : placeN ts K m G l i = fromN ts K m G l := by
  unfold placeN fromN
  rw [List.take_of_length_le (by rw [splitL_len]; exact h)]
theorem places_are (ts : List Int) (K : Nat) (m : Int) (G : Nat) (l : List RowV) : placesV ts K m G l = (List.range (cntG G l.length)).map fun i => ((placeN ts K m G l i : Int), ⟨#[]⟩) := rfl
theorem frame_eight (d : List Int) : 5 ≤ (frameL d).length := by rw [frameL_len]; have := pv_pos (d.length : Int); omega
theorem drop_app {a b : List Int} {k : Nat} (h : k = a.length) : (a ++ b).drop k = b := by rw [h, List.drop_left]
/-- the bytes from a column of a granule on -/
theorem part_block {ts : List Int} {K : Nat} {m : Int} {G : Nat} {l : List RowV} {i k : Nat} (hi : i < cntG G l.length) (hk : k < ts.length) :
    ∃ rest, (partL ts K m G l).drop (placeN ts K m G l i + (frsL ((granD ts (granL G l i)).take k)).length) = blockL (ts.getD k 0) (colL (granL G l i) (k : Int)) ++ rest := by
  have e1 : splitL G l = (splitL G l).take i ++ granL G l i :: (splitL G l).drop (i + 1) := by
    have h1 := List.take_append_drop (i + 1) (splitL G l)
    rw [splitL_take hi, List.append_assoc] at h1
    exact h1.symm
  have e2 : granD ts (granL G l i) = (granD ts (granL G l i)).take k ++ dataL (ts.getD k 0) (colL (granL G l i) (k : Int)) :: (granD ts (granL G l i)).drop (k + 1) := by
    have h1 := List.take_append_drop (k + 1) (granD ts (granL G l i))
    rw [List.take_succ_eq_append_getElem (by rw [granD_len]; exact hk), List.append_assoc] at h1
    have h2 : (granD ts (granL G l i))[k]'(by rw [granD_len]; exact hk) = dataL (ts.getD k 0) (colL (granL G l i) (k : Int)) := by simp [granD]
    rw [h2] at h1
    exact h1.symm
  have e3 : frsL (frontD ts K m G (splitL G l)) = frsL (frontD ts K m G ((splitL G l).take i)) ++ (frsL (granD ts (granL G l i)) ++ frsL (((splitL G l).drop (i + 1)).flatMap (granD ts))) := by
    have h1 : frontD ts K m G (splitL G l) = frontD ts K m G ((splitL G l).take i) ++ (granD ts (granL G l i) ++ ((splitL G l).drop (i + 1)).flatMap (granD ts)) := by
      conv => lhs; rw [e1]
      unfold frontD
      rw [List.flatMap_append, List.flatMap_cons]; rfl
    rw [h1, frsL_app, frsL_app]
  have e4 : frsL (granD ts (granL G l i)) = frsL ((granD ts (granL G l i)).take k) ++ (blockL (ts.getD k 0) (colL (granL G l i) (k : Int)) ++ frsL ((granD ts (granL G l i)).drop (k + 1))) := by
    conv => lhs; rw [e2]
    rw [frsL_app]; rfl
  refine ⟨frsL ((granD ts (granL G l i)).drop (k + 1)) ++ (frsL (((splitL G l).drop (i + 1)).flatMap (granD ts)) ++ (frsL (marksD ts K (marksL G K l) ++ [dataL 2 (placesV ts K m G l)]) ++ w8 (fromN ts K m G l : Int))), ?_⟩
  unfold partL
  rw [part_split, frsL_app, e3, e4]
  have e5 : ∀ (a b c d e f g : List Int), a ++ ((b ++ (c ++ d)) ++ e) ++ f ++ g = (a ++ b) ++ (c ++ (d ++ (e ++ (f ++ g)))) := fun a b c d e f g => by simp only [List.append_assoc]
  rw [e5]
  exact drop_app (by rw [List.length_append]; rfl)
theorem gran_take_next {ts : List Int} {g : List RowV} {k : Nat} (hk : k < ts.length) : (frsL ((granD ts g).take (k + 1))).length = (frsL ((granD ts g).take k)).length + (blockL (ts.getD k 0) (colL g (k : Int))).length := by
  rw [List.take_succ_eq_append_getElem (by rw [granD_len]; exact hk), frsL_app, List.length_append]
  have h2 : (granD ts g)[k]'(by rw [granD_len]; exact hk) = dataL (ts.getD k 0) (colL g (k : Int)) := by simp [granD]
  rw [h2, frsL, frsL, List.append_nil]; rfl
theorem gran_take_all {ts : List Int} {g : List RowV} : (granD ts g).take ts.length = granD ts g := List.take_of_length_le (by rw [granD_len]; exact Nat.le_refl _)
/-- the head, and what is behind it -/
theorem part_head (ts : List Int) (K : Nat) (m : Int) (G : Nat) (l : List RowV) : ∃ rest, partL ts K m G l = frameL (putS ts (K : Int) m (G : Int)) ++ rest := by
  unfold partL partD
  rw [frsL, List.append_assoc]; exact ⟨_, rfl⟩
/-- the last eight bytes -/
theorem part_last (ts : List Int) (K : Nat) (m : Int) (G : Nat) (l : List RowV) : (partL ts K m G l).drop ((partL ts K m G l).length - 8) = w8 (fromN ts K m G l : Int) ∧ 8 ≤ (partL ts K m G l).length := by
  have hl : (partL ts K m G l).length = (frsL (partD ts K m G l)).length + 8 := by unfold partL; rw [List.length_append, w8_len]
  refine ⟨?_, by omega⟩
  rw [show (partL ts K m G l).length - 8 = (frsL (partD ts K m G l)).length by omega]
  exact drop_app rfl
theorem from_lt (ts : List Int) (K : Nat) (m : Int) (G : Nat) (l : List RowV) : fromN ts K m G l + 5 + 8 ≤ (partL ts K m G l).length := by
  unfold partL
  rw [part_split, frsL_app, frsL_app, List.length_append, List.length_append, List.length_append, w8_len]
  have : frsL [dataL 2 (placesV ts K m G l)] = frameL (dataL 2 (placesV ts K m G l)) := by rw [frsL, frsL, List.append_nil]
  rw [this]
  have := frame_eight (dataL 2 (placesV ts K m G l))
  unfold fromN
  omega
theorem part_long (ts : List Int) (K : Nat) (m : Int) (G : Nat) (l : List RowV) : 20 ≤ (partL ts K m G l).length := by
  have h1 := from_lt ts K m G l
  have h2 : 5 + 4 ≤ fromN ts K m G l := by
    unfold fromN frontD
    rw [frsL, List.length_append, frameL_len]
    have := pv_pos ((putS ts (K : Int) m (G : Int)).length : Int)
    have h3 : 4 ≤ (putS ts (K : Int) m (G : Int)).length := by
      unfold putS
      refine Nat.le_trans ?_ (joinN_len _)
      simp [schemaN]
    omega
  omega
theorem frs_byt : ∀ (ds : List (List Int)), (∀ d ∈ ds, Byt d) → Byt (frsL ds)
  | [], _ => fun z hz => by cases hz
  | d :: ds, h => fun z hz => by
    rcases List.mem_append.1 hz with hz | hz
    · exact frameL_bytes (h d (List.mem_cons_self ..)) z hz
    · exact frs_byt ds (fun x hx => h x (List.mem_cons_of_mem _ hx)) z hz
theorem PartOk.byt {ts : List Int} {K : Nat} {m : Int} {G : Nat} {l : List RowV} (h : PartOk ts K m G l) : Byt (partL ts K m G l) := fun z hz => by
  rcases List.mem_append.1 hz with hz | hz
  · exact frs_byt _ (fun d hd => (h.data d hd).1) z hz
  · exact w8_bytes _ z hz
end Go.Proofs.YtbfihajgjbpmaaaGreat
/- Stage 11, plain: how many bytes a part has at most. -/
namespace Go.Proofs.YtbfihajgjbpmaaaGreat
set_option linter.unusedVariables false
set_option maxRecDepth 4000

theorem block_most {t : Int} {l : List (Int × ByteArray)} (h : colB t l = true) : (blockL t l).length ≤ 61 * l.length + 11 := by
  have hn := (colB_iff.1 h).2.1
  have hp := pv_len 1 (l.length : Int) (by omega)
  have hd : (dataL t l).length ≤ 61 * l.length + 4 := by
    unfold dataL
    rw [List.length_cons]
    rcases type_cases (colB_iff.1 h).1 with ht | rfl
    · rw [bare_num ht]
      unfold putI
      rw [List.length_append, List.length_map]
      have := (bodyI_len (numsV l)).2
      rw [List.length_map] at this
      omega
    · rw [bare_txt]
      unfold putT
      rw [List.length_append, List.length_map]
      have h1 := (bodyT_len (txtsV l)).2
      have h2 := each_most (txtsV l) (col_okT h).2
      rw [List.length_map] at h2
      omega
  have hq := pv_len 2 ((dataL t l).length : Int) (by omega)
  unfold blockL
  rw [frameL_len]
  omega
theorem frs_range (f : Nat → List Int) (B : Nat) : ∀ n, (∀ k, k < n → (frameL (f k)).length ≤ B) → (frsL ((List.range n).map f)).length ≤ n * B
  | 0, _ => by simp [frsL]
  | n + 1, h => by
    rw [List.range_succ, List.map_append, frsL_app, List.length_append, Nat.succ_mul]
    have h1 := frs_range f B n (fun k hk => h k (by omega))
    have h2 := h n (by omega)
    have h3 : frsL (List.map f [n]) = frameL (f n) := by rw [List.map_cons, List.map_nil, frsL, frsL, List.append_nil]
    rw [h3]
    omega
theorem gran_most {ts : List Int} {g : List RowV} (h : RowsOk ts g) (ht : ∀ x ∈ ts, 1 ≤ x ∧ x ≤ 3) (hn : g.length ≤ 2000) : (frsL (granD ts g)).length ≤ ts.length * (61 * g.length + 11) := by
  refine frs_range _ _ _ (fun k hk => ?_)
  obtain ⟨c1, c2, c3⟩ := h.colB ht hn hk
  have := block_most c1
  rw [c3] at this
  exact this
theorem flat_most {ts : List Int} (ht : ∀ x ∈ ts, 1 ≤ x ∧ x ≤ 3) : ∀ (gs : List (List RowV)), (∀ g ∈ gs, RowsOk ts g ∧ g.length ≤ 2000) → (frsL (gs.flatMap (granD ts))).length ≤ ts.length * (61 * gs.flatten.length + 11 * gs.length)
  | [], _ => by simp [frsL]
  | g :: gs, h => by
    rw [List.flatMap_cons, frsL_app, List.length_append, List.flatten_cons, List.length_append, List.length_cons]
    have h1 := flat_most ht gs (fun x hx => h x (List.mem_cons_of_mem _ hx))
    have h0 := h g (List.mem_cons_self ..)
    have h2 := gran_most h0.1 ht h0.2
    have e : ts.length * (61 * (g.length + gs.flatten.length) + 11 * (gs.length + 1)) = ts.length * (61 * g.length + 11) + ts.length * (61 * gs.flatten.length + 11 * gs.length) := by rw [← Nat.mul_add]; congr 1; omega
    rw [e]
    omega
/-- so many bytes at most -/
theorem part_most {ts : List Int} {K : Nat} {m : Int} {G : Nat} {l : List RowV} (h : PartOk ts K m G l) : (partL ts K m G l).length ≤ 100 + 144 * (ts.length * l.length) + 72 * l.length + 11 * ts.length := by
  obtain ⟨n1, n2, n3, n4⟩ := h.nums
  have hcn := cntG_le (G := G) (j := l.length) n3.1
  have hmost := h.most
  have a1 := flat_most n4 (splitL G l) (split_ok h.rows h.most)
  rw [split_flat n3.1, splitL_len] at a1
  have a2 : (frsL (marksD ts K (marksL G K l))).length ≤ K * (61 * cntG G l.length + 11) := by
    refine frs_range _ _ _ (fun k hk => ?_)
    obtain ⟨c1, c2, c3⟩ := marks_col h.rows n2.2 n3.1 n4 (by omega) hk
    have := block_most c1
    rw [c3] at this
    exact this
  have a3 := block_most h.places.1
  have a4 : (placesV ts K m G l).length = cntG G l.length := by simp [placesV]
  rw [a4] at a3
  have a5 : (frameL (putS ts (K : Int) m (G : Int))).length ≤ 72 + 64 := by
    have := (schema_small h.check).2
    rw [frameL_len, pv_small (by omega), List.length_singleton]
    omega
  have a6 : (frameL (putS ts (K : Int) m (G : Int))).length ≤ 81 := by
    have h1 := (schema_small h.check).1
    have h2 := (schema_small h.check).2
    have h3 : (putS ts (K : Int) m (G : Int)).length ≤ 68 := by
      rw [h1]; simp [schemaN]; omega
    rw [frameL_len, pv_small (by omega), List.length_singleton]
    omega
  have e1 : ts.length * (61 * l.length + 11 * cntG G l.length) ≤ ts.length * (72 * l.length) := Nat.mul_le_mul_left _ (by omega)
  have e2 : K * (61 * cntG G l.length + 11) ≤ ts.length * (61 * l.length + 11) := Nat.mul_le_mul n2.2 (by omega)
  have e3 : ts.length * (72 * l.length) = 72 * (ts.length * l.length) := by rw [Nat.mul_left_comm]
  have e4 : ts.length * (61 * l.length + 11) = 61 * (ts.length * l.length) + 11 * ts.length := by rw [Nat.mul_add, Nat.mul_left_comm, Nat.mul_comm ts.length 11]
  unfold partL
  rw [part_split, frsL_app, frsL_app, List.length_append, List.length_append, List.length_append, w8_len]
  have b1 : frsL [dataL 2 (placesV ts K m G l)] = blockL 2 (placesV ts K m G l) := by rw [frsL, frsL, List.append_nil]; rfl
  have b2 : (frsL (frontD ts K m G (splitL G l))).length = (frameL (putS ts (K : Int) m (G : Int))).length + (frsL ((splitL G l).flatMap (granD ts))).length := by
    unfold frontD
    rw [frsL, List.length_append]
  rw [b1, b2]
  omega
end Go.Proofs.YtbfihajgjbpmaaaGreat
