/- Texts that belong together, one behind the other: QBp, QBq, QBr, QBs, QBt, QBu, QBv, QBw. -/
import Derived.Test.YtbfihajgjbpmaaaGreatBlock
import Derived.Test.YtbfihajgjbpmaaaGreatTexts
import Derived.Test.YtbfihajgjbpmaaaGreatGrnA
import Derived.Test.YtbfihajgjbpmaaaGreatOrdA
/- Stage 11, plain: frames one behind the other; a byte of a frame that is changed is told. -/
namespace Go.Proofs.YtbfihajgjbpmaaaGreat
set_option linter.unusedVariables false
set_option maxRecDepth 4000

abbrev Byt (zs : List Int) : Prop := ∀ z ∈ zs, 0 ≤ z ∧ z ≤ 255
/-- frames, one behind the other -/
def frsL : List (List Int) → List Int
  | [] => []
  | d :: ds => frameL d ++ frsL ds
theorem frsL_app : ∀ a b, frsL (a ++ b) = frsL a ++ frsL b
  | [], b => rfl
  | d :: a, b => by rw [List.cons_append, frsL, frsL, frsL_app a b, List.append_assoc]
abbrev SmF (ds : List (List Int)) : Prop := ∀ d ∈ ds, d.length ≤ 1048576
theorem frame_pos (d : List Int) : 1 ≤ (frameL d).length := by rw [frameL_len]; have := pv_pos (d.length : Int); omega
theorem len_u64 {d : List Int} (h : d.length ≤ 1048576) : 0 ≤ (d.length : Int) ∧ (d.length : Int) ≤ 18446744073709551615 := by omega
theorem frame_cut {a b r r' : List Int} (ha : a.length ≤ 1048576) (hb : b.length ≤ 1048576) (h : frameL a ++ r = frameL b ++ r') : a = b ∧ r = r' := by
  unfold frameL at h
  simp only [List.append_assoc] at h
  obtain ⟨h1, h2⟩ := pv_cut (len_u64 ha) (len_u64 hb) h
  have hl : a.length = b.length := by omega
  obtain ⟨-, h3⟩ := List.append_inj h2 (by rw [sealL_len, sealL_len])
  exact List.append_inj h3 hl
theorem frs_cut : ∀ p q, SmF p → SmF q → ∀ {r r' : List Int}, frsL p ++ r = frsL q ++ r' → (frsL p).length ≤ (frsL q).length → ∃ c, q = p ++ c ∧ r = frsL c ++ r'
  | [], q, _, _, r, r', h, _ => ⟨q, rfl, h⟩
  | d :: p, [], _, _, r, r', _, hl => by
    have := frame_pos d
    simp only [frsL, List.length_append, List.length_nil] at hl
    omega
  | d :: p, d' :: q, hp, hq, r, r', h, hl => by
    rw [frsL, frsL, List.append_assoc, List.append_assoc] at h
    obtain ⟨rfl, h2⟩ := frame_cut (hp d (List.mem_cons_self ..)) (hq d' (List.mem_cons_self ..)) h
    rw [frsL, frsL, List.length_append, List.length_append] at hl
    obtain ⟨c, e1, e2⟩ := frs_cut p q (fun x hx => hp x (List.mem_cons_of_mem _ hx)) (fun x hx => hq x (List.mem_cons_of_mem _ hx)) h2 (by omega)
    exact ⟨c, by rw [e1]; rfl, e2⟩
/-- frames are told apart -/
theorem frs_inj {p q : List (List Int)} (hp : SmF p) (hq : SmF q) (h : frsL p = frsL q) : p = q := by
  obtain ⟨c, e1, e2⟩ := frs_cut p q hp hq (r := []) (r' := []) (by rw [h]) (by rw [h]; exact Nat.le_refl _)
  cases c with
  | nil => rw [e1, List.append_nil]
  | cons d c =>
    rw [List.append_nil, frsL] at e2
    have := congrArg List.length e2
    rw [List.length_append] at this
    have := frame_pos d
    simp at *
    omega
end Go.Proofs.YtbfihajgjbpmaaaGreat
/- Stage 11, plain: a byte of a length that is changed is told, of columns of few values and of schemas. -/
namespace Go.Proofs.YtbfihajgjbpmaaaGreat
set_option linter.unusedVariables false
set_option maxRecDepth 4000

theorem each_most : ∀ (l : List ByteArray), (∀ s ∈ l, s.size ≤ 60) → (eachL l).length ≤ 61 * l.length
  | [], _ => by simp [eachL]
  | s :: l, h => by
    have h1 := each_most l (fun x hx => h x (List.mem_cons_of_mem _ hx))
    have h2 := h s (List.mem_cons_self ..)
    have h3 : eachL (s :: l) = eachL [s] ++ eachL l := eachL_app [s] l
    have h4 : (eachL [s]).length = 1 + s.size := by
      have := eachL_snoc [] s
      rw [List.nil_append] at this
      rw [this]
      have hs : (nums s).length = s.size := nums_len s
      simp only [eachL, List.nil_append, List.length_append, hs, pv_small (show (s.size : Int) < 128 by omega), List.length_singleton]
    rw [h3, List.length_append, h4, List.length_cons]
    omega
/-- how a schema is put: its numbers are bytes -/
theorem schema_small {ts : List Int} {K m g : Int} (h : checkB ts K m g = true) : putS ts K m g = schemaN ts K m g ∧ (putS ts K m g).length < 128 := by
  obtain ⟨h1, h2, h3, h4, h5, h6, h7, h8, h9⟩ := check_is h
  have e : putS ts K m g = schemaN ts K m g := by
    unfold putS
    refine joinN_small (fun x hx => ?_)
    simp only [schemaN, List.mem_cons, List.mem_append, List.not_mem_nil, or_false] at hx
    rcases hx with rfl | hx | rfl | rfl | rfl
    · omega
    · have := h9 x hx; omega
    · omega
    · omega
    · omega
  refine ⟨e, ?_⟩
  rw [e]
  simp [schemaN]
  omega
end Go.Proofs.YtbfihajgjbpmaaaGreat
/- Stage 11, plain: a part's bytes; any one byte of them that is changed is told. -/
namespace Go.Proofs.YtbfihajgjbpmaaaGreat
set_option linter.unusedVariables false
set_option maxRecDepth 4000

/-- rows that may be, of these types -/
structure RowsOk (ts : List Int) (l : List RowV) : Prop where
  len : ∀ r ∈ l, r.length = ts.length
  fit : ∀ r ∈ l, ∀ k, k < ts.length → fitsB (ts.getD k 0) (r.getD k v0).1 (r.getD k v0).2 = true
  rg : ∀ r ∈ l, RgV r
theorem RowsOk.sub {ts : List Int} {l g : List RowV} (h : RowsOk ts l) (hs : ∀ r ∈ g, r ∈ l) : RowsOk ts g := ⟨fun r hr => h.len r (hs r hr), fun r hr => h.fit r (hs r hr), fun r hr => h.rg r (hs r hr)⟩
theorem RowsOk.of {ts : List Int} {l : List RowV} (h : ∀ r ∈ l, FR ts r) : RowsOk ts l := by
  refine ⟨fun r hr => (h r hr).len, fun r hr k hk => (okR_get (h r hr).ok k hk).2.1, fun r hr v hv => ?_⟩
  obtain ⟨i, hi, rfl⟩ := List.mem_iff_getElem.1 hv
  have h1 := okR_get (h r hr).ok i (by rw [← (h r hr).len]; exact hi)
  have e : r.getD i v0 = r[i] := by simp [List.getD, hi]
  rw [e] at h1
  exact h1.2.2
theorem RowsOk.col {ts : List Int} {g : List RowV} (h : RowsOk ts g) {k : Nat} (hk : k < ts.length) : colL g (k : Int) = g.map fun r => r.getD k v0 := by
  rw [colL_yes (fun r hr => by rw [h.len r hr]; omega)]; rfl
theorem RowsOk.colB {ts : List Int} {g : List RowV} (h : RowsOk ts g) (ht : ∀ x ∈ ts, 1 ≤ x ∧ x ≤ 3) (hn : g.length ≤ 2000) {k : Nat} (hk : k < ts.length) :
    colB (ts.getD k 0) (colL g (k : Int)) = true ∧ RgV (colL g (k : Int)) ∧ (colL g (k : Int)).length = g.length := by
  rw [h.col hk]
  have e : ts.getD k 0 = ts[k] := by simp [List.getD, hk]
  refine ⟨colB_iff.2 ⟨by rw [e]; exact ht _ (List.getElem_mem _), by rw [List.length_map]; exact hn, fun v hv => ?_⟩, fun v hv => ?_, List.length_map _⟩
  · obtain ⟨r, hr, rfl⟩ := List.mem_map.1 hv
    exact h.fit r hr k hk
  · obtain ⟨r, hr, rfl⟩ := List.mem_map.1 hv
    have hkr : k < r.length := by rw [h.len r hr]; exact hk
    have e2 : r.getD k v0 = r[k] := by simp [List.getD, hkr]
    rw [e2]; exact h.rg r hr _ (List.getElem_mem _)
/-- the data of a granule's frames -/
def granD (ts : List Int) (g : List RowV) : List (List Int) := (List.range ts.length).map fun (k : Nat) => dataL (ts.getD k 0) (colL g (k : Int))
theorem granD_len (ts : List Int) (g : List RowV) : (granD ts g).length = ts.length := by simp [granD]
theorem flat_len (ts : List Int) : ∀ (gs : List (List RowV)), (gs.flatMap (granD ts)).length = gs.length * ts.length
  | [] => by simp
  | g :: gs => by rw [List.flatMap_cons, List.length_append, granD_len, flat_len ts gs, List.length_cons, Nat.succ_mul, Nat.add_comm]
theorem gran_inj {ts : List Int} {g g' : List RowV} (h : RowsOk ts g) (h' : RowsOk ts g') (ht : ∀ x ∈ ts, 1 ≤ x ∧ x ≤ 3) (hT : 1 ≤ ts.length) (hn : g.length ≤ 2000) (hn' : g'.length ≤ 2000) (e : granD ts g = granD ts g') : g = g' := by
  have each : ∀ k, k < ts.length → colL g (k : Int) = colL g' (k : Int) := fun k hk => by
    have e1 := congrArg (fun z : List (List Int) => z.getD k []) e
    simp [granD, hk] at e1
    obtain ⟨a1, a2, -⟩ := h.colB ht hn hk
    obtain ⟨b1, b2, -⟩ := h'.colB ht hn' hk
    have e3 : ts[k] = ts.getD k 0 := by simp [List.getD, hk]
    rw [e3] at e1
    exact data_inj a1 b1 a2 b2 e1
  have hl : g.length = g'.length := by
    rw [← (h.colB ht hn hT).2.2, ← (h'.colB ht hn' hT).2.2]
    exact congrArg List.length (each 0 hT)
  have r1 := rows_back h.len
  have r2 := rows_back h'.len
  rw [← r1, ← r2, hl]
  congr 1
  refine List.map_congr_left (fun k hk => each k (List.mem_range.1 hk))
theorem flat_inj {ts : List Int} (ht : ∀ x ∈ ts, 1 ≤ x ∧ x ≤ 3) (hT : 1 ≤ ts.length) : ∀ (gs gs' : List (List RowV)), (∀ g ∈ gs, RowsOk ts g ∧ g.length ≤ 2000) → (∀ g ∈ gs', RowsOk ts g ∧ g.length ≤ 2000) → gs.flatMap (granD ts) = gs'.flatMap (granD ts) → gs = gs'
  | [], [], _, _, _ => rfl
  | [], g :: gs, _, _, e => by
    have := congrArg List.length e
    rw [flat_len, flat_len, List.length_cons, Nat.succ_mul, List.length_nil, Nat.zero_mul] at this
    omega
  | g :: gs, [], _, _, e => by
    have := congrArg List.length e
    rw [flat_len, flat_len, List.length_cons, Nat.succ_mul, List.length_nil, Nat.zero_mul] at this
    omega
  | g :: gs, g' :: gs', h, h', e => by
    rw [List.flatMap_cons, List.flatMap_cons] at e
    obtain ⟨e1, e2⟩ := List.append_inj e (by rw [granD_len, granD_len])
    have a := h g (List.mem_cons_self ..)
    have b := h' g' (List.mem_cons_self ..)
    rw [gran_inj a.1 b.1 ht hT a.2 b.2 e1, flat_inj ht hT gs gs' (fun x hx => h x (List.mem_cons_of_mem _ hx)) (fun x hx => h' x (List.mem_cons_of_mem _ hx)) e2]
theorem split_ok {ts : List Int} {G : Nat} {l : List RowV} (h : RowsOk ts l) (hn : l.length ≤ 2000) : ∀ g ∈ splitL G l, RowsOk ts g ∧ g.length ≤ 2000 := by
  intro g hg
  obtain ⟨i, _, rfl⟩ := List.mem_map.1 hg
  refine ⟨h.sub (fun r hr => List.mem_of_mem_drop (List.mem_of_mem_take hr)), ?_⟩
  rw [gran_len]; omega
/-- granules tell the rows -/
theorem split_tells {G : Nat} (hG : 0 < G) {l l' : List RowV} (h : splitL G l = splitL G l') : l = l' := by rw [← split_flat hG l, ← split_flat hG l', h]
/-- the data of the marks' frames -/
def marksD (ts : List Int) (K : Nat) (ms : List RowV) : List (List Int) := (List.range K).map fun (k : Nat) => dataL (ts.getD k 0) (colL ms (k : Int))
theorem marksD_len (ts : List Int) (K : Nat) (ms : List RowV) : (marksD ts K ms).length = K := by simp [marksD]
/-- the head's and the granules' frames -/
def bodyD (ts : List Int) (G : Nat) (l : List RowV) : List (List Int) := (splitL G l).flatMap (granD ts)
def frontD (ts : List Int) (K : Nat) (m : Int) (G : Nat) (gs : List (List RowV)) : List (List Int) := putS ts (K : Int) m (G : Int) :: gs.flatMap (granD ts)
/-- where the marks begin -/
def fromN (ts : List Int) (K : Nat) (m : Int) (G : Nat) (l : List RowV) : Nat := (frsL (frontD ts K m G (splitL G l))).length
/-- where each granule begins -/
def placesV (ts : List Int) (K : Nat) (m : Int) (G : Nat) (l : List RowV) : List (Int × ByteArray) := (List.range (cntG G l.length)).map fun i => (((frsL (frontD ts K m G ((splitL G l).take i))).length : Int), ⟨#[]⟩)
/-- all the frames of a part -/
def partD (ts : List Int) (K : Nat) (m : Int) (G : Nat) (l : List RowV) : List (List Int) := putS ts (K : Int) m (G : Int) :: (bodyD ts G l ++ (marksD ts K (marksL G K l) ++ [dataL 2 (placesV ts K m G l)]))
/-- a part's bytes -/
def partL (ts : List Int) (K : Nat) (m : Int) (G : Nat) (l : List RowV) : List Int := frsL (partD ts K m G l) ++ w8 (fromN ts K m G l : Int)
end Go.Proofs.YtbfihajgjbpmaaaGreat
/- Stage 11, plain: any one byte of a part that is changed is told. -/
namespace Go.Proofs.YtbfihajgjbpmaaaGreat
set_option linter.unusedVariables false
set_option maxRecDepth 4000

/-- a schema and rows that may be written (but for their order) -/
structure PartOk (ts : List Int) (K : Nat) (m : Int) (G : Nat) (l : List RowV) : Prop where
  check : checkB ts (K : Int) m (G : Int) = true
  some : 1 ≤ l.length
  most : l.length ≤ 2000
  rows : RowsOk ts l
theorem PartOk.nums {ts : List Int} {K : Nat} {m : Int} {G : Nat} {l : List RowV} (h : PartOk ts K m G l) : (1 ≤ ts.length ∧ ts.length ≤ 64) ∧ (1 ≤ K ∧ K ≤ ts.length) ∧ (1 ≤ G ∧ G ≤ 64) ∧ ∀ x ∈ ts, 1 ≤ x ∧ x ≤ 3 := by
  obtain ⟨h1, h2, h3, h4, h5, h6, h7, h8, h9⟩ := check_is h.check
  exact ⟨⟨h1, h2⟩, by omega, by omega, h9⟩
theorem marks_ok {ts : List Int} {K G : Nat} {l : List RowV} (h : RowsOk ts l) (hK : K ≤ ts.length) (hG : 0 < G) : RowsOk (ts.take K) (marksL G K l) := by
  have at_ : ∀ r ∈ marksL G K l, ∃ x ∈ l, r = x.take K := fun r hr => by
    obtain ⟨i, hi, rfl⟩ := List.mem_map.1 hr
    have h0 := (cnt_lt hG).1 (List.mem_range.1 hi)
    have e : l.getD (i * G) [] = l[i * G] := by simp [List.getD, h0]
    exact ⟨l[i * G], List.getElem_mem _, by rw [e]⟩
  refine ⟨fun r hr => ?_, fun r hr k hk => ?_, fun r hr => ?_⟩
  · obtain ⟨x, hx, rfl⟩ := at_ r hr
    rw [List.length_take, List.length_take, h.len x hx]
  · obtain ⟨x, hx, rfl⟩ := at_ r hr
    rw [List.length_take] at hk
    have e1 : (ts.take K).getD k 0 = ts.getD k 0 := by rw [List.getD_eq_getElem?_getD, List.getElem?_take_of_lt (by omega), ← List.getD_eq_getElem?_getD]
    have e2 : (x.take K).getD k v0 = x.getD k v0 := by rw [List.getD_eq_getElem?_getD, List.getElem?_take_of_lt (by omega), ← List.getD_eq_getElem?_getD]
    rw [e1, e2]
    exact h.fit x hx k (by omega)
  · obtain ⟨x, hx, rfl⟩ := at_ r hr
    exact fun v hv => h.rg x hx v (List.mem_of_mem_take hv)
theorem marks_col {ts : List Int} {K G : Nat} {l : List RowV} (h : RowsOk ts l) (hK : K ≤ ts.length) (hG : 0 < G) (ht : ∀ x ∈ ts, 1 ≤ x ∧ x ≤ 3) (hn : cntG G l.length ≤ 2000) {k : Nat} (hk : k < K) :
    colB (ts.getD k 0) (colL (marksL G K l) (k : Int)) = true ∧ RgV (colL (marksL G K l) (k : Int)) ∧ (colL (marksL G K l) (k : Int)).length = cntG G l.length := by
  have := (marks_ok h hK hG).colB (fun x hx => ht x (List.mem_of_mem_take hx)) (by rw [marksL_len]; exact hn) (k := k) (by rw [List.length_take]; omega)
  have e1 : (ts.take K).getD k 0 = ts.getD k 0 := by rw [List.getD_eq_getElem?_getD, List.getElem?_take_of_lt (by omega), ← List.getD_eq_getElem?_getD]
  rw [e1, marksL_len] at this
  exact this
theorem cntG_le {G j : Nat} (hG : 1 ≤ G) : cntG G j ≤ j := by
  by_cases h0 : cntG G j = 0
  · omega
  · have := (cnt_lt (i := cntG G j - 1) (n := j) hG).1 (by omega)
    have h2 : (cntG G j - 1) * 1 ≤ (cntG G j - 1) * G := Nat.mul_le_mul_left _ hG
    omega
theorem frs_most : ∀ (ds : List (List Int)), (∀ d ∈ ds, d.length ≤ 500001) → (frsL ds).length ≤ ds.length * 500015
  | [], _ => by simp [frsL]
  | d :: ds, h => by
    have h1 := frs_most ds (fun x hx => h x (List.mem_cons_of_mem _ hx))
    have h2 := h d (List.mem_cons_self ..)
    have h3 := pv_len10 (x := (d.length : Int)) (by omega)
    rw [frsL, List.length_append, frameL_len, List.length_cons, Nat.succ_mul]
    omega
theorem schema_byt {ts : List Int} {K m g : Int} (h : checkB ts K m g = true) : Byt (putS ts K m g) := by
  obtain ⟨h1, h2, h3, h4, h5, h6, h7, h8, h9⟩ := check_is h
  rw [(schema_small h).1]
  intro x hx
  simp only [schemaN, List.mem_cons, List.mem_append, List.not_mem_nil, or_false] at hx
  rcases hx with rfl | hx | rfl | rfl | rfl
  · omega
  · have := h9 x hx; omega
  · omega
  · omega
  · omega
theorem PartOk.front {ts : List Int} {K : Nat} {m : Int} {G : Nat} {l : List RowV} (h : PartOk ts K m G l) {gs : List (List RowV)} (hs : ∀ g ∈ gs, g ∈ splitL G l) : ∀ d ∈ frontD ts K m G gs, Byt d ∧ d.length ≤ 500001 := by
  intro d hd
  obtain ⟨n1, n2, n3, n4⟩ := h.nums
  rcases List.mem_cons.1 hd with rfl | hd
  · exact ⟨schema_byt h.check, by have := (schema_small h.check).2; omega⟩
  · obtain ⟨g, hg, hd⟩ := List.mem_flatMap.1 hd
    obtain ⟨k, hk, rfl⟩ := List.mem_map.1 hd
    have hgo := split_ok h.rows h.most g (hs g hg)
    have hc := (hgo.1.colB n4 hgo.2 (List.mem_range.1 hk)).1
    exact ⟨data_bytes hc, (data_len hc).2⟩
theorem PartOk.front_len {ts : List Int} {K : Nat} {m : Int} {G : Nat} {l : List RowV} (h : PartOk ts K m G l) {gs : List (List RowV)} (hs : ∀ g ∈ gs, g ∈ splitL G l) (hn : gs.length ≤ 2000) : (frsL (frontD ts K m G gs)).length ≤ 128001 * 500015 := by
  have h1 := frs_most _ (fun d hd => (h.front hs d hd).2)
  have h2 : (frontD ts K m G gs).length ≤ 128001 := by
    unfold frontD
    rw [List.length_cons, flat_len]
    have : gs.length * ts.length ≤ 2000 * 64 := Nat.mul_le_mul hn h.nums.1.2
    omega
  exact Nat.le_trans h1 (Nat.mul_le_mul_right 500015 h2)
theorem PartOk.places {ts : List Int} {K : Nat} {m : Int} {G : Nat} {l : List RowV} (h : PartOk ts K m G l) : colB 2 (placesV ts K m G l) = true ∧ RgV (placesV ts K m G l) := by
  have hcn := cntG_le (G := G) (j := l.length) h.nums.2.2.1.1
  have e : placesV ts K m G l = ofN ((List.range (cntG G l.length)).map fun i => (((frsL (frontD ts K m G ((splitL G l).take i))).length : Nat) : Int)) := by
    unfold placesV ofN
    rw [List.map_map]; rfl
  rw [e]
  refine ⟨colB_ofN (.inr rfl) (by rw [List.length_map, List.length_range]; have := h.most; omega), ofN_rg (fun x hx => ?_)⟩
  obtain ⟨i, hi, rfl⟩ := List.mem_map.1 hx
  have := h.front_len (gs := (splitL G l).take i) (fun g hg => List.mem_of_mem_take hg) (by rw [List.length_take, splitL_len]; have := h.most; omega)
  omega
theorem PartOk.data {ts : List Int} {K : Nat} {m : Int} {G : Nat} {l : List RowV} (h : PartOk ts K m G l) : ∀ d ∈ partD ts K m G l, Byt d ∧ d.length ≤ 500001 := by
  intro d hd
  obtain ⟨n1, n2, n3, n4⟩ := h.nums
  have hcn := cntG_le (G := G) (j := l.length) n3.1
  have hmost := h.most
  have fr := h.front (gs := splitL G l) (fun g hg => hg)
  rcases List.mem_cons.1 hd with rfl | hd
  · exact fr _ (List.mem_cons_self ..)
  · rcases List.mem_append.1 hd with hd | hd
    · exact fr d (List.mem_cons_of_mem _ hd)
    · rcases List.mem_append.1 hd with hd | hd
      · obtain ⟨k, hk, rfl⟩ := List.mem_map.1 hd
        have hc := (marks_col h.rows n2.2 n3.1 n4 (by omega) (List.mem_range.1 hk)).1
        exact ⟨data_bytes hc, (data_len hc).2⟩
      · rw [List.mem_singleton.1 hd]
        exact ⟨data_bytes h.places.1, (data_len h.places.1).2⟩
theorem PartOk.sm {ts : List Int} {K : Nat} {m : Int} {G : Nat} {l : List RowV} (h : PartOk ts K m G l) : SmF (partD ts K m G l) := fun d hd => by have := (h.data d hd).2; omega
theorem PartOk.from_le {ts : List Int} {K : Nat} {m : Int} {G : Nat} {l : List RowV} (h : PartOk ts K m G l) : fromN ts K m G l ≤ 128001 * 500015 :=
  h.front_len (gs := splitL G l) (fun g hg => hg) (by rw [splitL_len]; have := cntG_le (G := G) (j := l.length) h.nums.2.2.1.1; have := h.most; omega)
theorem part_split (ts : List Int) (K : Nat) (m : Int) (G : Nat) (l : List RowV) : partD ts K m G l = frontD ts K m G (splitL G l) ++ (marksD ts K (marksL G K l) ++ [dataL 2 (placesV ts K m G l)]) := rfl
end Go.Proofs.YtbfihajgjbpmaaaGreat
/- Stage 11, plain: any one byte of a part that is changed is told (granules of no more than 8 rows). -/
namespace Go.Proofs.YtbfihajgjbpmaaaGreat
set_option linter.unusedVariables false
set_option maxRecDepth 4000

end Go.Proofs.YtbfihajgjbpmaaaGreat
/- Stage 11, plain: a part of a part's bytes, or more than they, is no part. -/
namespace Go.Proofs.YtbfihajgjbpmaaaGreat
set_option linter.unusedVariables false
set_option maxRecDepth 4000

/-- a part tells its schema and its rows -/
theorem part_inj {ts ts' : List Int} {K K' : Nat} {m m' : Int} {G G' : Nat} {l l' : List RowV} (h : PartOk ts K m G l) (h' : PartOk ts' K' m' G' l') (e : partL ts K m G l = partL ts' K' m' G' l') : ts = ts' ∧ K = K' ∧ m = m' ∧ G = G' ∧ l = l' := by
  have hl := congrArg List.length e
  unfold partL at e hl
  rw [List.length_append, List.length_append, w8_len, w8_len] at hl
  obtain ⟨ea, eb⟩ := List.append_inj e (by omega)
  have hD := frs_inj h.sm h'.sm ea
  obtain ⟨e1, e2⟩ := List.cons.inj hD
  obtain ⟨rfl, hK, rfl, hG⟩ := putS_inj h.check h'.check e1
  obtain rfl : K = K' := by omega
  obtain rfl : G = G' := by omega
  obtain ⟨n1, n2, n3, n4⟩ := h.nums
  have hl2 := congrArg List.length e2
  simp only [List.length_append, marksD_len, List.length_singleton] at hl2
  obtain ⟨e3, -⟩ := List.append_inj e2 (by omega)
  exact ⟨rfl, rfl, rfl, rfl, split_tells n3.1 (flat_inj n4 n1.1 _ _ (split_ok h.rows h.most) (split_ok h'.rows h'.most) e3)⟩
end Go.Proofs.YtbfihajgjbpmaaaGreat
/- Stage 11, plain: where the blocks of a part lie, and how many bytes it has. -/
namespace Go.Proofs.YtbfihajgjbpmaaaGreat
set_option linter.unusedVariables false
set_option maxRecDepth 4000

theorem front_snoc (ts : List Int) (K : Nat) (m : Int) (G : Nat) (gs : List (List RowV)) (g : List RowV) : frontD ts K m G (gs ++ [g]) = frontD ts K m G gs ++ granD ts g := by
  unfold frontD
  rw [List.flatMap_append, List.flatMap_cons, List.flatMap_nil, List.append_nil]; rfl
theorem splitL_take {G : Nat} {l : List RowV} {i : Nat} (h : i < cntG G l.length) : (splitL G l).take (i + 1) = (splitL G l).take i ++ [granL G l i] := by
  rw [List.take_succ_eq_append_getElem (by rw [splitL_len]; exact h)]
  simp [splitL]
theorem frame_eight (d : List Int) : 5 ≤ (frameL d).length := by rw [frameL_len]; have := pv_pos (d.length : Int); omega
theorem drop_app {a b : List Int} {k : Nat} (h : k = a.length) : (a ++ b).drop k = b := by rw [h, List.drop_left]
theorem gran_take_all {ts : List Int} {g : List RowV} : (granD ts g).take ts.length = granD ts g := List.take_of_length_le (by rw [granD_len]; exact Nat.le_refl _)
/-- the head, and what is behind it -/
theorem part_head (ts : List Int) (K : Nat) (m : Int) (G : Nat) (l : List RowV) : ∃ rest, partL ts K m G l = frameL (putS ts (K : Int) m (G : Int)) ++ rest := by
  unfold partL partD
  rw [frsL, List.append_assoc]; exact ⟨_, rfl⟩
/-- the last eight bytes -/
theorem part_last (ts : List Int) (K : Nat) (m : Int) (G : Nat) (l : List RowV) : (partL ts K m G l).drop ((partL ts K m G l).length - 8) = w8 (fromN ts K m G l : Int) ∧ 8 ≤ (partL ts K m G l).length := by
  have hl : (partL ts K m G l).length = (frsL (partD ts K m G l)).length + 8 := by unfold partL; rw [List.length_append, w8_len]
  refine ⟨?_, by omega⟩
  rw [show (partL ts K m G l).length - 8 = (frsL (partD ts K m G l)).length by omega]
  exact drop_app rfl
theorem from_lt (ts : List Int) (K : Nat) (m : Int) (G : Nat) (l : List RowV) : fromN ts K m G l + 5 + 8 ≤ (partL ts K m G l).length := by
  unfold partL
  rw [part_split, frsL_app, frsL_app, List.length_append, List.length_append, List.length_append, w8_len]
  have : frsL [dataL 2 (placesV ts K m G l)] = frameL (dataL 2 (placesV ts K m G l)) := by rw [frsL, frsL, List.append_nil]
  rw [this]
  have := frame_eight (dataL 2 (placesV ts K m G l))
  unfold fromN
  omega
theorem part_long (ts : List Int) (K : Nat) (m : Int) (G : Nat) (l : List RowV) : 20 ≤ (partL ts K m G l).length := by
  have h1 := from_lt ts K m G l
  have h2 : 5 + 4 ≤ fromN ts K m G l := by
    unfold fromN frontD
    rw [frsL, List.length_append, frameL_len]
    have := pv_pos ((putS ts (K : Int) m (G : Int)).length : Int)
    have h3 : 4 ≤ (putS ts (K : Int) m (G : Int)).length := by
      unfold putS
      refine Nat.le_trans ?_ (joinN_len _)
      simp [schemaN]
    omega
  omega
theorem frs_byt : ∀ (ds : List (List Int)), (∀ d ∈ ds, Byt d) → Byt (frsL ds)
  | [], _ => fun z hz => by cases hz
  | d :: ds, h => fun z hz => by
    rcases List.mem_append.1 hz with hz | hz
    · exact frameL_bytes (h d (List.mem_cons_self ..)) z hz
    · exact frs_byt ds (fun x hx => h x (List.mem_cons_of_mem _ hx)) z hz
theorem PartOk.byt {ts : List Int} {K : Nat} {m : Int} {G : Nat} {l : List RowV} (h : PartOk ts K m G l) : Byt (partL ts K m G l) := fun z hz => by
  rcases List.mem_append.1 hz with hz | hz
  · exact frs_byt _ (fun d hd => (h.data d hd).1) z hz
  · exact w8_bytes _ z hz
end Go.Proofs.YtbfihajgjbpmaaaGreat
/- Stage 11, plain: how many bytes a part has at most. -/
namespace Go.Proofs.YtbfihajgjbpmaaaGreat
set_option linter.unusedVariables false
set_option maxRecDepth 4000

theorem block_most {t : Int} {l : List (Int × ByteArray)} (h : colB t l = true) : (blockL t l).length ≤ 61 * l.length + 11 := by
  have hn := (colB_iff.1 h).2.1
  have hp := pv_len 1 (l.length : Int) (by omega)
  have hd : (dataL t l).length ≤ 61 * l.length + 4 := by
    unfold dataL
    rw [List.length_cons]
    rcases type_cases (colB_iff.1 h).1 with ht | rfl
    · rw [bare_num ht]
      unfold putI
      rw [List.length_append, List.length_map]
      have := (bodyI_len (numsV l)).2
      rw [List.length_map] at this
      omega
    · rw [bare_txt]
      unfold putT
      rw [List.length_append, List.length_map]
      have h1 := (bodyT_len (txtsV l)).2
      have h2 := each_most (txtsV l) (col_okT h).2
      rw [List.length_map] at h2
      omega
  have hq := pv_len 2 ((dataL t l).length : Int) (by omega)
  unfold blockL
  rw [frameL_len]
  omega
theorem frs_range (f : Nat → List Int) (B : Nat) : ∀ n, (∀ k, k < n → (frameL (f k)).length ≤ B) → (frsL ((List.range n).map f)).length ≤ n * B
  | 0, _ => by simp [frsL]
  | n + 1, h => by
    rw [List.range_succ, List.map_append, frsL_app, List.length_append, Nat.succ_mul]
    have h1 := frs_range f B n (fun k hk => h k (by omega))
    have h2 := h n (by omega)
    have h3 : frsL (List.map f [n]) = frameL (f n) := by rw [List.map_cons, List.map_nil, frsL, frsL, List.append_nil]
    rw [h3]
    omega
theorem gran_most {ts : List Int} {g : List RowV} (h : RowsOk ts g) (ht : ∀ x ∈ ts, 1 ≤ x ∧ x ≤ 3) (hn : g.length ≤ 2000) : (frsL (granD ts g)).length ≤ ts.length * (61 * g.length + 11) := by
  refine frs_range _ _ _ (fun k hk => ?_)
  obtain ⟨c1, c2, c3⟩ := h.colB ht hn hk
  have := block_most c1
  rw [c3] at this
  exact this
theorem flat_most {ts : List Int} (ht : ∀ x ∈ ts, 1 ≤ x ∧ x ≤ 3) : ∀ (gs : List (List RowV)), (∀ g ∈ gs, RowsOk ts g ∧ g.length ≤ 2000) → (frsL (gs.flatMap (granD ts))).length ≤ ts.length * (61 * gs.flatten.length + 11 * gs.length)
  | [], _ => by simp [frsL]
  | g :: gs, h => by
    rw [List.flatMap_cons, frsL_app, List.length_append, List.flatten_cons, List.length_append, List.length_cons]
    have h1 := flat_most ht gs (fun x hx => h x (List.mem_cons_of_mem _ hx))
    have h0 := h g (List.mem_cons_self ..)
    have h2 := gran_most h0.1 ht h0.2
    have e : ts.length * (61 * (g.length + gs.flatten.length) + 11 * (gs.length + 1)) = ts.length * (61 * g.length + 11) + ts.length * (61 * gs.flatten.length + 11 * gs.length) := by rw [← Nat.mul_add]; congr 1; omega
    rw [e]
    omega
/-- so many bytes at most -/
theorem part_most {ts : List Int} {K : Nat} {m : Int} {G : Nat} {l : List RowV} (h : PartOk ts K m G l) : (partL ts K m G l).length ≤ 100 + 144 * (ts.length * l.length) + 72 * l.length + 11 * ts.length := by
  obtain ⟨n1, n2, n3, n4⟩ := h.nums
  have hcn := cntG_le (G := G) (j := l.length) n3.1
  have hmost := h.most
  have a1 := flat_most n4 (splitL G l) (split_ok h.rows h.most)
  rw [split_flat n3.1, splitL_len] at a1
  have a2 : (frsL (marksD ts K (marksL G K l))).length ≤ K * (61 * cntG G l.length + 11) := by
    refine frs_range _ _ _ (fun k hk => ?_)
    obtain ⟨c1, c2, c3⟩ := marks_col h.rows n2.2 n3.1 n4 (by omega) hk
    have := block_most c1
    rw [c3] at this
    exact this
  have a3 := block_most h.places.1
  have a4 : (placesV ts K m G l).length = cntG G l.length := by simp [placesV]
  rw [a4] at a3
  have a5 : (frameL (putS ts (K : Int) m (G : Int))).length ≤ 72 + 64 := by
    have := (schema_small h.check).2
    rw [frameL_len, pv_small (by omega), List.length_singleton]
    omega
  have a6 : (frameL (putS ts (K : Int) m (G : Int))).length ≤ 81 := by
    have h1 := (schema_small h.check).1
    have h2 := (schema_small h.check).2
    have h3 : (putS ts (K : Int) m (G : Int)).length ≤ 68 := by
      rw [h1]; simp [schemaN]; omega
    rw [frameL_len, pv_small (by omega), List.length_singleton]
    omega
  have e1 : ts.length * (61 * l.length + 11 * cntG G l.length) ≤ ts.length * (72 * l.length) := Nat.mul_le_mul_left _ (by omega)
  have e2 : K * (61 * cntG G l.length + 11) ≤ ts.length * (61 * l.length + 11) := Nat.mul_le_mul n2.2 (by omega)
  have e3 : ts.length * (72 * l.length) = 72 * (ts.length * l.length) := by rw [Nat.mul_left_comm]
  have e4 : ts.length * (61 * l.length + 11) = 61 * (ts.length * l.length) + 11 * ts.length := by rw [Nat.mul_add, Nat.mul_left_comm, Nat.mul_comm ts.length 11]
  unfold partL
  rw [part_split, frsL_app, frsL_app, List.length_append, List.length_append, List.length_append, w8_len]
  have b1 : frsL [dataL 2 (placesV ts K m G l)] = blockL 2 (placesV ts K m G l) := by rw [frsL, frsL, List.append_nil]; rfl
  have b2 : (frsL (frontD ts K m G (splitL G l))).length = (frameL (putS ts (K : Int) m (G : Int))).length + (frsL ((splitL G l).flatMap (granD ts))).length := by
    unfold frontD
    rw [frsL, List.length_append]
  rw [b1, b2]
  omega
end Go.Proofs.YtbfihajgjbpmaaaGreat
