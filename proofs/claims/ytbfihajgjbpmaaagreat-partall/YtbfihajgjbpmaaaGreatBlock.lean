/- Texts that belong together, one behind the other: B7p, B7a, B7b, B7c. -/
import Derived.Test.YtbfihajgjbpmaaaGreatVals
import Derived.Test.YtbfihajgjbpmaaaGreatCrc
import Derived.Test.YtbfihajgjbpmaaaGreatInts
import Derived.Test.YtbfihajgjbpmaaaGreatTexts
/- Plain facts on blocks: which values are a column, how they are put, what bytes say. -/
namespace Go.Proofs.YtbfihajgjbpmaaaGreat
open Go.ChangeShapes Go.WideShapes Go.ChangeAt Go.RowKit
set_option linter.unusedVariables false
set_option maxRecDepth 4000

abbrev numsV (l : List (Int × ByteArray)) : List Int := l.map (fun v => v.1)
abbrev txtsV (l : List (Int × ByteArray)) : List ByteArray := l.map (fun v => v.2)
abbrev ofN (l : List Int) : List (Int × ByteArray) := l.map (fun n => (n, ⟨#[]⟩))
abbrev ofT (l : List ByteArray) : List (Int × ByteArray) := l.map (fun s => (0, s))
/-- whether each of some values fits -/
def fitAll (t : Int) (l : List (Int × ByteArray)) : Bool := l.all (fun v => fitsB t v.1 v.2)
/-- whether there is a type t, and l may be a column of it -/
def colB (t : Int) (l : List (Int × ByteArray)) : Bool := decide (1 ≤ t ∧ t ≤ 3) && decide (l.length ≤ 2000) && fitAll t l
/-- the values of a column without their type and their sum -/
def bareL (t : Int) (l : List (Int × ByteArray)) : List Int := if t = 3 then putT (txtsV l) else putI (numsV l)
def dataL (t : Int) (l : List (Int × ByteArray)) : List Int := t :: bareL t l
/-- a block -/
def blockL (t : Int) (l : List (Int × ByteArray)) : List Int := frameL (dataL t l)

theorem fitAll_iff {t : Int} {l : List (Int × ByteArray)} : fitAll t l = true ↔ ∀ v ∈ l, fitsB t v.1 v.2 = true := by
  unfold fitAll; rw [List.all_eq_true]
theorem colB_iff {t : Int} {l : List (Int × ByteArray)} : colB t l = true ↔ (1 ≤ t ∧ t ≤ 3) ∧ l.length ≤ 2000 ∧ ∀ v ∈ l, fitsB t v.1 v.2 = true := by
  unfold colB
  rw [Bool.and_eq_true, Bool.and_eq_true, decide_eq_true_iff, decide_eq_true_iff, fitAll_iff, and_assoc]
theorem fitsB_empty {t n : Int} {s : ByteArray} (ht : t = 1 ∨ t = 2) (h : fitsB t n s = true) : s = ⟨#[]⟩ := by
  rw [fitsB, if_pos ht, empty_is, decide_eq_true_iff] at h
  obtain ⟨d⟩ := s
  have : d.size = 0 := h
  rw [Array.eq_empty_of_size_eq_zero this]
theorem fits_text {n : Int} {s : ByteArray} (h : fitsB 3 n s = true) : n = 0 ∧ s.size ≤ 60 := by
  simp [fitsB] at h; exact ⟨h.1, by omega⟩
theorem text_fits {s : ByteArray} (h : s.size ≤ 60) : fitsB 3 0 s = true := by simp [fitsB]; omega
theorem fitsB_zero {t : Int} : fitsB t 0 ⟨#[]⟩ = decide (1 ≤ t ∧ t ≤ 3) := by
  by_cases h : t = 1 ∨ t = 2
  · rw [fits_num h, decide_eq_true (by omega)]
  · by_cases h3 : t = 3
    · subst h3; rfl
    · rw [decide_eq_false (by omega)]
      simp [fitsB, h, h3]
theorem ofN_of {t : Int} {l : List (Int × ByteArray)} (ht : t = 1 ∨ t = 2) (h : ∀ v ∈ l, fitsB t v.1 v.2 = true) : ofN (numsV l) = l := by
  unfold ofN numsV
  rw [List.map_map]
  conv => rhs; rw [← List.map_id l]
  exact List.map_congr_left (fun v hv => Prod.ext rfl (fitsB_empty ht (h v hv)).symm)
theorem ofT_of {l : List (Int × ByteArray)} (h : ∀ v ∈ l, fitsB 3 v.1 v.2 = true) : ofT (txtsV l) = l := by
  unfold ofT txtsV
  rw [List.map_map]
  conv => rhs; rw [← List.map_id l]
  exact List.map_congr_left (fun v hv => Prod.ext (fits_text (h v hv)).1.symm rfl)
theorem numsV_ofN (l : List Int) : numsV (ofN l) = l := by unfold numsV ofN; rw [List.map_map]; exact List.map_id l
theorem txtsV_ofT (l : List ByteArray) : txtsV (ofT l) = l := by unfold txtsV ofT; rw [List.map_map]; exact List.map_id l
theorem nums_i64 {l : List (Int × ByteArray)} (h : RgV l) : I64s (numsV l) := by
  intro x hx
  obtain ⟨v, hv, rfl⟩ := List.mem_map.1 hx
  exact h v hv
theorem ofN_rg {l : List Int} (h : I64s l) : RgV (ofN l) := by
  intro v hv
  obtain ⟨x, hx, rfl⟩ := List.mem_map.1 hv
  exact h x hx
theorem ofT_rg (l : List ByteArray) : RgV (ofT l) := by
  intro v hv
  obtain ⟨x, hx, rfl⟩ := List.mem_map.1 hv
  show (-9223372036854775808 : Int) ≤ 0 ∧ (0 : Int) ≤ 9223372036854775807
  omega
theorem colB_ofN {t : Int} {l : List Int} (ht : t = 1 ∨ t = 2) (h : l.length ≤ 2000) : colB t (ofN l) = true := by
  refine colB_iff.2 ⟨by omega, by simpa using h, fun v hv => ?_⟩
  obtain ⟨x, hx, rfl⟩ := List.mem_map.1 hv
  exact fits_num ht
theorem colB_ofT {l : List ByteArray} (h : l.length ≤ 2000) (hs : ∀ s ∈ l, s.size ≤ 60) : colB 3 (ofT l) = true := by
  refine colB_iff.2 ⟨by omega, by simpa using h, fun v hv => ?_⟩
  obtain ⟨x, hx, rfl⟩ := List.mem_map.1 hv
  exact text_fits (hs x hx)
theorem col_okT {l : List (Int × ByteArray)} (h : colB 3 l = true) : OkT (txtsV l) := by
  obtain ⟨-, h2, h3⟩ := colB_iff.1 h
  refine ⟨by simpa using h2, fun s hs => ?_⟩
  obtain ⟨v, hv, rfl⟩ := List.mem_map.1 hs
  exact (fits_text (h3 v hv)).2
theorem bare_num {t : Int} {l : List (Int × ByteArray)} (ht : t = 1 ∨ t = 2) : bareL t l = putI (numsV l) := by rw [bareL, if_neg (by omega)]
theorem bare_txt {l : List (Int × ByteArray)} : bareL 3 l = putT (txtsV l) := by rw [bareL, if_pos rfl]
theorem type_cases {t : Int} (h : 1 ≤ t ∧ t ≤ 3) : (t = 1 ∨ t = 2) ∨ t = 3 := by omega
theorem bare_inj {t : Int} {l k : List (Int × ByteArray)} (hl : colB t l = true) (hk : colB t k = true) (rl : RgV l) (rk : RgV k) (h : bareL t l = bareL t k) : l = k := by
  obtain ⟨ht, l2, l3⟩ := colB_iff.1 hl
  obtain ⟨-, k2, k3⟩ := colB_iff.1 hk
  rcases type_cases ht with ht | rfl
  · rw [bare_num ht, bare_num ht] at h
    rw [← ofN_of ht l3, ← ofN_of ht k3, putI_inj (nums_i64 rl) (nums_i64 rk) (by simpa using l2) (by simpa using k2) h]
  · rw [bare_txt, bare_txt] at h
    have ol := col_okT hl
    have ok := col_okT hk
    have o1 := ol.1
    have o2 := ok.1
    rw [← ofT_of l3, ← ofT_of k3, putT_inj ol.fit ok.fit (by omega) (by omega) h]
theorem data_inj {t : Int} {l k : List (Int × ByteArray)} (hl : colB t l = true) (hk : colB t k = true) (rl : RgV l) (rk : RgV k) (h : dataL t l = dataL t k) : l = k :=
  bare_inj hl hk rl rk (List.cons.inj h).2
theorem bare_bytes {t : Int} {l : List (Int × ByteArray)} (h : colB t l = true) : ∀ z ∈ bareL t l, 0 ≤ z ∧ z ≤ 255 := by
  obtain ⟨ht, l2, l3⟩ := colB_iff.1 h
  rcases type_cases ht with ht | rfl
  · rw [bare_num ht]; exact putI_bytes _
  · rw [bare_txt]; exact putT_bytes (by rw [List.length_map]; omega)
theorem data_bytes {t : Int} {l : List (Int × ByteArray)} (h : colB t l = true) : ∀ z ∈ dataL t l, 0 ≤ z ∧ z ≤ 255 := by
  intro z hz
  rcases List.mem_cons.1 hz with rfl | hz
  · have := (colB_iff.1 h).1; omega
  · exact bare_bytes h z hz
theorem bare_len {t : Int} {l : List (Int × ByteArray)} (h : colB t l = true) : 2 ≤ (bareL t l).length ∧ (bareL t l).length ≤ 500000 := by
  obtain ⟨ht, l2, l3⟩ := colB_iff.1 h
  rcases type_cases ht with ht | rfl
  · rw [bare_num ht, putI, List.length_append]
    have h1 := bodyI_len (numsV l)
    have h2 := pv_pos ((numsV l).length : Int)
    have h3 : ((numsV l).length) = l.length := List.length_map ..
    have h4 := pv_len10 (x := ((numsV l).length : Int)) (by omega)
    omega
  · rw [bare_txt, putT, List.length_append]
    have o := col_okT h
    have hs : Sm (txtsV l) := fun s hs => by have := o.2 s hs; omega
    have h1 := bodyT_len (txtsV l)
    have h2 := eachL_len210 hs
    have h3 := o.1
    have h4 := pv_len10 (x := ((txtsV l).length : Int)) (by omega)
    have h5 := pv_pos ((txtsV l).length : Int)
    omega
theorem data_len {t : Int} {l : List (Int × ByteArray)} (h : colB t l = true) : 3 ≤ (dataL t l).length ∧ (dataL t l).length ≤ 500001 := by
  have := bare_len h
  rw [dataL, List.length_cons]; omega
/-- the bytes within a frame are those of no column -/
def NoB (t : Int) (D : List Int) : Prop := ∀ k, colB t k = true → RgV k → dataL t k ≠ D
theorem noB_nil (t : Int) : NoB t [] := fun k _ _ h => by cases h
theorem noB_head {t x : Int} {r : List Int} (h : x ≠ t) : NoB t (x :: r) := fun k _ _ e => h (List.cons.inj e).1.symm
theorem noB_type {t : Int} {D : List Int} (h : ¬ (1 ≤ t ∧ t ≤ 3)) : NoB t D := fun k hk _ _ => h (colB_iff.1 hk).1
theorem noB_num {t : Int} {r : List Int} (ht : t = 1 ∨ t = 2) (h : NoI r) : NoB t (t :: r) := by
  intro k hk rk e
  have e2 := (List.cons.inj e).2
  rw [bare_num ht] at e2
  exact h _ (nums_i64 rk) (by rw [List.length_map]; exact (colB_iff.1 hk).2.1) e2
theorem noB_txt {r : List Int} (h : NoT r) : NoB 3 (3 :: r) := by
  intro k hk rk e
  have e2 := (List.cons.inj e).2
  rw [bare_txt] at e2
  exact h _ (col_okT hk) e2
/-- what bytes say as a block: the values, how many bytes, the error -/
def SaysB (t : Int) (zs : List Int) (l : List (Int × ByteArray)) (s ev : Int) : Prop :=
  (ev = 0 ∧ colB t l = true ∧ RgV l ∧ unf zs = (dataL t l, s, 0)) ∨
  (l = [] ∧ s = 0 ∧ ev = 10 ∧ (unf zs).2.2 = 0 ∧ NoB t (unf zs).1) ∨
  (l = [] ∧ s = 0 ∧ ev = (unf zs).2.2 ∧ ev ≠ 0)
theorem SaysB.one {t : Int} {zs : List Int} {l k : List (Int × ByteArray)} {s u ev fv : Int} (h1 : SaysB t zs l s ev) (h2 : SaysB t zs k u fv) : l = k ∧ s = u ∧ ev = fv := by
  rcases h1 with ⟨rfl, a1, a2, a3⟩ | ⟨rfl, rfl, rfl, a1, a2⟩ | ⟨rfl, rfl, a1, a2⟩
  · rcases h2 with ⟨rfl, b1, b2, b3⟩ | ⟨rfl, rfl, rfl, b1, b2⟩ | ⟨rfl, rfl, b1, b2⟩
    · rw [a3] at b3
      simp only [Prod.mk.injEq, and_true] at b3
      exact ⟨data_inj a1 b1 a2 b2 b3.1, b3.2, rfl⟩
    · rw [a3] at b2; exact absurd rfl (b2 l a1 a2)
    · rw [a3] at b1; exact absurd b1 b2
  · rcases h2 with ⟨rfl, b1, b2, b3⟩ | ⟨rfl, rfl, rfl, b1, b2⟩ | ⟨rfl, rfl, b1, b2⟩
    · rw [b3] at a2; exact absurd rfl (a2 k b1 b2)
    · exact ⟨rfl, rfl, rfl⟩
    · exact absurd (b1.trans a1) b2
  · rcases h2 with ⟨rfl, b1, b2, b3⟩ | ⟨rfl, rfl, rfl, b1, b2⟩ | ⟨rfl, rfl, b1, b2⟩
    · rw [b3] at a1; exact absurd a1 a2
    · exact absurd (a1.trans b1) a2
    · exact ⟨rfl, rfl, a1.trans b1.symm⟩
/-- a block that was put, and whatever is behind it -/
theorem says_back {t : Int} {l : List (Int × ByteArray)} (h : colB t l = true) (hr : RgV l) (rest : List Int) : SaysB t (blockL t l ++ rest) l ((blockL t l).length : Int) 0 :=
  .inl ⟨rfl, h, hr, unf_frame _ _ (by have := data_len h; omega)⟩
/-- what is told of a frame is how it was put -/
theorem unf_told {zs D : List Int} {s : Int} (hz : ∀ z ∈ zs, 0 ≤ z ∧ z ≤ 255) (h : unf zs = (D, s, 0)) : ∃ n : Nat, s = (n : Int) ∧ n ≤ zs.length ∧ zs.take n = frameL D := by
  by_cases h0 : (varR zs).2 = 0
  · rw [unf, if_pos (.inl h0)] at h; simp at h
  obtain ⟨y, rest, hzs, hy0, hy1, hv⟩ := varR_back zs hz h0
  by_cases hbad : (varR zs).2 = 0 ∨ 1048576 < (varR zs).1 ∨ (zs.length : Int) < (varR zs).2 + 4 + (varR zs).1
  · rw [unf, if_pos hbad] at h; simp at h
  rw [unf_some (s := y.toNat) (k := (pv y).length) (by rw [hv]; simp; omega) (by rw [hv]) (by rw [hv] at hbad; simp only at hbad; omega)] at h
  have hb2 : (zs.length : Int) ≥ ((pv y).length : Int) + 4 + y := by rw [hv] at hbad; simp only at hbad; omega
  have hdr : zs.drop (pv y).length = rest := by rw [hzs, List.drop_left]
  split at h
  · rename_i hq
    simp only [Prod.mk.injEq, and_true] at h
    obtain ⟨hD, hs⟩ := h
    have hlr : rest.length = zs.length - (pv y).length := by rw [← hdr, List.length_drop]
    have hDl : D.length = y.toNat := by rw [← hD, List.length_take, List.length_drop]; omega
    refine ⟨(pv y).length + 4 + y.toNat, by omega, by omega, ?_⟩
    rw [hD] at hq
    rw [frameL, hDl, ← hq, ← hD, show ((y.toNat : Nat) : Int) = y from by omega, hdr]
    have e1 : zs.drop ((pv y).length + 4) = rest.drop 4 := by rw [← List.drop_drop, hdr]
    rw [e1, List.append_assoc, ← List.take_add, show 4 + y.toNat = 4 + y.toNat from rfl]
    conv => lhs; rw [hzs]
    rw [Nat.add_assoc, List.take_length_add_append]
  · simp at h
end Go.Proofs.YtbfihajgjbpmaaaGreat
/- Contracts of package block: the functions that are handed over, turn. -/
namespace Go.Proofs.YtbfihajgjbpmaaaGreat
open Go.ChangeShapes Go.WideShapes Go.ChangeAt Go.RowKit
set_option linter.unusedVariables false
set_option maxRecDepth 4000

set_option maxHeartbeats 400000 in
theorem col1_any (t n : Int) (s : ByteArray) (h : Nat) (w : World) (hc : w.cell? ⟨h, 0, none⟩ = some (.int .i64 t)) :
    Calls Tryz.prog 116 #[VV n s, .pointer (some ⟨h, 0, none⟩)] w fun e w' => e = .returned (.bool (!fitsB t n s)) ∧ Below w.heap.size w w' := by
  obtain ⟨c0, c1⟩ := Bx.new w n s 62
  have hc1 := keepo hc (.cells #[.int .i64 n, .string s] 62)
  go_enter Tryz.func116, Tryz.ntmps116
  go_wp2_with fail
  refine (fits_any t n s _).mono ?_
  rintro e w1 ⟨rfl, hb1⟩
  go_wp2_with fail
  go_ret
  exact ⟨rfl, after1 hb1⟩
set_option maxHeartbeats 400000 in
theorem bare1_any (n : Int) (s : ByteArray) (w : World) : Calls Tryz.prog 119 #[VV n s] w fun e w' => e = .returned (.string s) ∧ Below w.heap.size w w' := by
  go_enter Tryz.func119, Tryz.ntmps119
  go_wp2_with fail
  go_ret
  exact ⟨rfl, Joins.below_alloc1 _ _⟩
set_option maxHeartbeats 400000 in
theorem bare2_any (n : Int) (s : ByteArray) (w : World) : Calls Tryz.prog 122 #[VV n s] w fun e w' => e = .returned (.int .i64 n) ∧ Below w.heap.size w w' := by
  go_enter Tryz.func122, Tryz.ntmps122
  go_wp2_with fail
  go_ret
  exact ⟨rfl, Joins.below_alloc1 _ _⟩
set_option maxHeartbeats 400000 in
theorem rb1_any (n : Int) (w : World) : Calls Tryz.prog 139 #[.int .i64 n] w fun e w' => e = .returned (VV n ⟨#[]⟩) ∧ Below w.heap.size w w' := by
  go_enter Tryz.func139, Tryz.ntmps139
  go_wp2_with fail
  (try simp only [Exit.inBlock, Exit.then])
  exact bodyPost_ret (res_vv rfl _ _ rfl (Bx.new w n ⟨#[]⟩ 62)) rfl ⟨rfl, Joins.below_alloc1 _ _⟩
set_option maxHeartbeats 400000 in
theorem rb2_any (s : ByteArray) (w : World) : Calls Tryz.prog 142 #[.string s] w fun e w' => e = .returned (VV 0 s) ∧ Below w.heap.size w w' := by
  go_enter Tryz.func142, Tryz.ntmps142
  go_wp2_with fail
  (try simp only [Exit.inBlock, Exit.then])
  exact bodyPost_ret (res_vv rfl _ _ rfl (Bx.new w 0 s 62)) rfl ⟨rfl, Joins.below_alloc1 _ _⟩
theorem txtsV_snoc {l : List (Int × ByteArray)} {j : Nat} (h : j < l.length) : txtsV (l.take (j + 1)) = txtsV (l.take j) ++ [(l.getD j v0).2] := by
  rw [List.take_succ_eq_append_getElem h, txtsV, List.map_append]; simp [List.getD, h]
theorem numsV_snoc {l : List (Int × ByteArray)} {j : Nat} (h : j < l.length) : numsV (l.take (j + 1)) = numsV (l.take j) ++ [(l.getD j v0).1] := by
  rw [List.take_succ_eq_append_getElem h, numsV, List.map_append]; simp [List.getD, h]
theorem ofN_snoc {l : List Int} {j : Nat} (h : j < l.length) : ofN (l.take (j + 1)) = ofN (l.take j) ++ [(l.getD j 0, ⟨#[]⟩)] := by
  rw [List.take_succ_eq_append_getElem h, ofN, List.map_append]; simp [List.getD, h]
theorem ofT_snoc {l : List ByteArray} {j : Nat} (h : j < l.length) : ofT (l.take (j + 1)) = ofT (l.take j) ++ [(0, l.getD j ⟨#[]⟩)] := by
  rw [List.take_succ_eq_append_getElem h, ofT, List.map_append]; simp [List.getD, h]
/-- what turn tells: a new slice -/
def TurnE (P : World → Option Addr → Prop) (w w' : World) (N : Nat) (e : Ending) : Prop :=
  e = .returned (.slice (some ⟨w.heap.size, 0, none⟩) N N) ∧ P w' (some ⟨w.heap.size, 0, none⟩) ∧ Below w.heap.size w w'
/- $1: the value's slot: 'fill_at | fill_set' and the cell -/
set_option maxHeartbeats 2000000 in
theorem turnVS_any (A : Option Addr) (N C : Nat) (l : List (Int × ByteArray)) (w : World) (hv : WV w A N l) (hN : N ≤ 2000) :
    Calls Tryz.prog 118 #[.slice A N C, .func (.func 119) #[] #[]] w fun e w' => TurnE (fun w a => TV w a N (txtsV l)) w w' N e := by
  have hmk := make_texts N hN
  have hl := Lib.hid (WV.len hv)
  go_enter Tryz.func118, Tryz.ntmps118
  go_wp2_with fail
  clear hmk
  have o0 := OS.beginT (w := w) (few_max' (n := N) (by omega)) w.heap.size (Nat.le_refl _)
  have hw0 : Below w.heap.size w (w.alloc (.cells (tcells (List.replicate N ⟨#[]⟩)).toArray 9)) := Joins.below_alloc1 _ _
  go_loopw [13] (fun i wr => ∃ (j : Nat) (p : List ByteArray), j ≤ N ∧ i = .int .i64 (j : Int) ∧ Hid (p.length = j) ∧ Hid (p = txtsV (l.take j)) ∧ OS 1 wr w.heap.size (.slice (some ⟨w.heap.size, 0, none⟩) N N) N (tcells (p ++ List.replicate (N - j) ⟨#[]⟩)) ∧ Below w.heap.size w wr) (fun i _ => N - (intOf i).toNat)
  case atStart => exact ⟨0, [], by omega, rfl, Lib.hid rfl, Lib.hid rfl, o0, hw0⟩
  case round =>
    clear o0 hw0
    obtain ⟨j, p, hj, rfl, HP, HT, ho, hbel⟩ := hrel
    by_cases hlt : j < N
    · have hji : (j : Int) < (N : Int) := by omega
      obtain ⟨b, off, rfl, hd1, hd2⟩ := WV.at hv j hlt
      replace hd1 := keepc hd1 hbel
      replace hd2 := keepc hd2 hbel
      have HS := Lib.hid (txtsV_snoc (l := l) (j := j) (by rw [hl.out]; exact hlt))
      generalize l.getD j v0 = y at hd1 hd2 HS
      go_wp2_with fail
      refine (bare1_any y.1 y.2 _).mono ?_
      rintro e w2 ⟨rfl, hb2⟩
      replace hb2 := after1 hb2
      replace ho := ho.below hb2
      replace hbel := Below.then hbel hb2
      obtain ⟨g, cp, hg, -, -, -, hcell, hfree, hset⟩ := ho.own (by omega)
      cases hg
      have hcj := hcell j _ (fillT_at HP.out hlt)
      have hfj := hfree j
      have ho3 := hset j (.string y.2) (by omega) rfl
      rw [fillT_set HP.out hlt] at ho3
      have hw3 := hbel.setCell (p := ⟨w.heap.size, j, none⟩) (Nat.le_refl _) (.string y.2)
      clear hcell hfree hset ho hbel hb2 hd1 hd2
      go_wp2_with fail
      go_roundw
      case rel => exact ⟨j + 1, p ++ [y.2], by omega, by go_num, Lib.hid (by rw [List.length_append, HP.out, List.length_singleton]), Lib.hid (by rw [HS.out, HT.out]), ho3, hw3⟩
      case measure => simp [intOf]; omega
    · skip
      obtain rfl : j = N := by omega
      have HE := Lib.hid (show p = txtsV l by rw [HT.out, ← hl.out, List.take_length])
      go_wp2_with fail
      go_ret
      obtain ⟨A', C', hA, hC1, -, hv', -⟩ := ho.sv
      cases hA
      rw [Nat.sub_self, List.replicate_zero, List.append_nil, HE.out] at hv'
      exact ⟨rfl, hv', hbel⟩
set_option maxHeartbeats 2000000 in
theorem turnVI_any (A : Option Addr) (N C : Nat) (l : List (Int × ByteArray)) (w : World) (hv : WV w A N l) (hN : N ≤ 2000) :
    Calls Tryz.prog 121 #[.slice A N C, .func (.func 122) #[] #[]] w fun e w' => TurnE (fun w a => IV w a N (numsV l)) w w' N e := by
  have hmk := make_i64s N hN
  have hl := Lib.hid (WV.len hv)
  go_enter Tryz.func121, Tryz.ntmps121
  go_wp2_with fail
  clear hmk
  have o0 := OS.begin (w := w) (few_max' (n := N) (by omega))
  have hw0 : Below w.heap.size w (w.alloc (.cells (icells (List.replicate N 0)).toArray 2)) := Joins.below_alloc1 _ _
  go_loopw [13] (fun i wr => ∃ (j : Nat) (p : List Int), j ≤ N ∧ i = .int .i64 (j : Int) ∧ Hid (p.length = j) ∧ Hid (p = numsV (l.take j)) ∧ OS 1 wr w.heap.size (.slice (some ⟨w.heap.size, 0, none⟩) N N) N (icells (p ++ List.replicate (N - j) 0)) ∧ Below w.heap.size w wr) (fun i _ => N - (intOf i).toNat)
  case atStart => exact ⟨0, [], by omega, rfl, Lib.hid rfl, Lib.hid rfl, o0, hw0⟩
  case round =>
    clear o0 hw0
    obtain ⟨j, p, hj, rfl, HP, HT, ho, hbel⟩ := hrel
    by_cases hlt : j < N
    · have hji : (j : Int) < (N : Int) := by omega
      obtain ⟨b, off, rfl, hd1, hd2⟩ := WV.at hv j hlt
      replace hd1 := keepc hd1 hbel
      replace hd2 := keepc hd2 hbel
      have HS := Lib.hid (numsV_snoc (l := l) (j := j) (by rw [hl.out]; exact hlt))
      generalize l.getD j v0 = y at hd1 hd2 HS
      go_wp2_with fail
      refine (bare2_any y.1 y.2 _).mono ?_
      rintro e w2 ⟨rfl, hb2⟩
      replace hb2 := after1 hb2
      replace ho := ho.below hb2
      replace hbel := Below.then hbel hb2
      obtain ⟨g, cp, hg, -, -, -, hcell, hfree, hset⟩ := ho.own (by omega)
      cases hg
      have hcj := hcell j _ (fill_at HP.out hlt)
      have hfj := hfree j
      have ho3 := hset j (.int .i64 y.1) (by omega) rfl
      rw [fill_set HP.out hlt] at ho3
      have hw3 := hbel.setCell (p := ⟨w.heap.size, j, none⟩) (Nat.le_refl _) (.int .i64 y.1)
      clear hcell hfree hset ho hbel hb2 hd1 hd2
      go_wp2_with fail
      go_roundw
      case rel => exact ⟨j + 1, p ++ [y.1], by omega, by go_num, Lib.hid (by rw [List.length_append, HP.out, List.length_singleton]), Lib.hid (by rw [HS.out, HT.out]), ho3, hw3⟩
      case measure => simp [intOf]; omega
    · skip
      obtain rfl : j = N := by omega
      have HE := Lib.hid (show p = numsV l by rw [HT.out, ← hl.out, List.take_length])
      go_wp2_with fail
      go_ret
      obtain ⟨A', C', hA, hC1, -, hv', -⟩ := ho.sv
      cases hA
      rw [Nat.sub_self, List.replicate_zero, List.append_nil, HE.out] at hv'
      exact ⟨rfl, hv', hbel⟩
theorem madeCells_val (n : Nat) : madeCells #[Value.int .i64 0, Value.string ⟨#[]⟩] (n * 2) = (vcells (List.replicate n v0)).toArray := by
  refine Array.ext' ?_
  refine List.ext_getElem? (fun i => ?_)
  have h := vcells_at (List.replicate n v0) (i / 2)
  rcases Nat.mod_two_eq_zero_or_one i with h0 | h1
  · rw [show 2 * (i / 2) = i by omega] at h
    simp only [madeCells, Array.toList_map, Array.toList_range, List.getElem?_map]
    rw [h.1]
    by_cases hi : i < n * 2
    · simp [hi, h0, show i / 2 < n by omega]
    · simp [hi, show ¬ i / 2 < n by omega]
  · rw [show 2 * (i / 2) + 1 = i by omega] at h
    simp only [madeCells, Array.toList_map, Array.toList_range, List.getElem?_map]
    rw [h.2]
    by_cases hi : i < n * 2
    · simp [hi, h1, show i / 2 < n by omega]
    · simp [hi, show ¬ i / 2 < n by omega]
theorem info_val : (Tryz.prog.info? 62).map (fun i => (i.zero, i.size, i.bytes)) = some (some (.agg #[.int .i64 0, .string ⟨#[]⟩]), 2, 24) := by kernel_rfl
theorem make_vals (N : Nat) (h : N ≤ 2000) (w : World) : (Instr.makeSlice 45 (.int .i64 (N : Int)) (.int .i64 (N : Int))).run Tryz.prog w = .ok (.slice (some ⟨w.heap.size, 0, none⟩) N N) (w.alloc (.cells (vcells (List.replicate N v0)).toArray 62)) := by
  obtain ⟨i, hi, hzz⟩ := Option.map_eq_some_iff.1 info_val
  simp only [Prod.mk.injEq] at hzz
  obtain ⟨hz, hs, hb⟩ := hzz
  have hr := run_make (P := Tryz.prog) w 45 62 i _ Tryz.underlying45 hi hz .i64 .i64 (N : Int) (N : Int) (by omega) (Int.le_refl _) (by rw [hb]; omega) (by omega)
  rw [Int.toNat_natCast, hs] at hr
  rw [hr]
  have : (Value.agg #[.int .i64 0, .string ⟨#[]⟩]).cells = #[.int .i64 0, .string ⟨#[]⟩] := rfl
  rw [this, madeCells_val]
theorem OS.beginV {w : World} {N : Nat} (h : N ≤ maxLen) : OS 2 (w.alloc (.cells (vcells (List.replicate N v0)).toArray 62)) w.heap.size (.slice (some ⟨w.heap.size, 0, none⟩) N N) N (vcells ([] ++ List.replicate (N - 0) v0)) := by
  rw [List.nil_append, Nat.sub_zero]
  exact OS.lit (k := 2) w w.heap.size (Nat.le_refl _) _ N 62 (by rw [vcells_len, List.length_replicate]) (vcells_one _) h _ rfl
theorem fillV_is {p : List (Int × ByteArray)} {j N : Nat} (hp : p.length = j) (h : j < N) : vcells (p ++ List.replicate (N - j) v0) = vcells p ++ .int .i64 0 :: .string ⟨#[]⟩ :: vcells (List.replicate (N - (j + 1)) v0) := by
  obtain ⟨m, hm⟩ : ∃ m, N - j = m + 1 := ⟨N - j - 1, by omega⟩
  rw [hm, show N - (j + 1) = m from by omega, List.replicate_succ, vcells_app, vcells]
theorem fillV_at0 {p : List (Int × ByteArray)} {j N : Nat} (hp : p.length = j) (h : j < N) : (vcells (p ++ List.replicate (N - j) v0))[j * 2]? = some (.int .i64 0) := by
  rw [fillV_is hp h, List.getElem?_append_right (by rw [vcells_len, hp]; omega), vcells_len, hp]; simp
theorem fillV_at1 {p : List (Int × ByteArray)} {j N : Nat} (hp : p.length = j) (h : j < N) : (vcells (p ++ List.replicate (N - j) v0))[j * 2 + 1]? = some (.string ⟨#[]⟩) := by
  rw [fillV_is hp h, List.getElem?_append_right (by rw [vcells_len, hp]; omega), vcells_len, hp, Nat.add_sub_cancel_left]; rfl
theorem fillV_set {p : List (Int × ByteArray)} {j N : Nat} {n : Int} {s : ByteArray} (hp : p.length = j) (h : j < N) : ((vcells (p ++ List.replicate (N - j) v0)).set (j * 2) (.int .i64 n)).set (j * 2 + 1) (.string s) = vcells ((p ++ [(n, s)]) ++ List.replicate (N - (j + 1)) v0) := by
  rw [fillV_is hp h, List.append_assoc, vcells_app]
  rw [List.set_append_right _ _ (by rw [vcells_len, hp]; omega), List.set_append_right _ _ (by rw [vcells_len, hp]; omega), vcells_len, hp]
  simp [vcells]
set_option maxHeartbeats 2000000 in
theorem turnIV_any (A : Option Addr) (N C : Nat) (l : List Int) (w : World) (hv : IV w A N l) (hN : N ≤ 2000) :
    Calls Tryz.prog 138 #[.slice A N C, .func (.func 139) #[] #[]] w fun e w' => TurnE (fun w a => WV w a N (ofN l)) w w' N e := by
  have hmk := make_vals N hN
  have hl := Lib.hid (IV.len hv)
  go_enter Tryz.func138, Tryz.ntmps138
  go_wp2_with fail
  clear hmk
  have o0 := OS.beginV (w := w) (few_max' (n := N) (by omega))
  have hw0 : Below w.heap.size w (w.alloc (.cells (vcells (List.replicate N v0)).toArray 62)) := Joins.below_alloc1 _ _
  go_loopw [13] (fun i wr => ∃ (j : Nat) (p : List (Int × ByteArray)), j ≤ N ∧ i = .int .i64 (j : Int) ∧ Hid (p.length = j) ∧ Hid (p = ofN (l.take j)) ∧ OS 2 wr w.heap.size (.slice (some ⟨w.heap.size, 0, none⟩) N N) N (vcells (p ++ List.replicate (N - j) v0)) ∧ Below w.heap.size w wr) (fun i _ => N - (intOf i).toNat)
  case atStart => exact ⟨0, [], by omega, rfl, Lib.hid rfl, Lib.hid rfl, o0, hw0⟩
  case round =>
    clear o0 hw0
    obtain ⟨j, p, hj, rfl, HP, HT, ho, hbel⟩ := hrel
    by_cases hlt : j < N
    · have hji : (j : Int) < (N : Int) := by omega
      obtain ⟨b, off, rfl, hd1⟩ := IV.at hv j hlt
      replace hd1 := keepc hd1 hbel
      have HS := Lib.hid (ofN_snoc (l := l) (j := j) (by rw [hl.out]; exact hlt))
      generalize l.getD j 0 = y at hd1 HS
      go_wp2_with fail
      refine (rb1_any y _).mono ?_
      rintro e w2 ⟨rfl, hb2⟩
      replace ho := ho.below hb2
      replace hbel := Below.then hbel hb2
      obtain ⟨g, cp, hg, -, -, -, hcell, hfree, hset⟩ := ho.own (by omega)
      cases hg
      have hcj := hcell (j * 2) _ (fillV_at0 HP.out hlt)
      have hck := hcell (j * 2 + 1) _ (fillV_at1 HP.out hlt)
      have hfj := hfree (j * 2)
      have hfk := hfree (j * 2 + 1)
      have ho3 := hset (j * 2) (.int .i64 y) (by omega) rfl
      obtain ⟨g, cp, hg, -, -, -, -, -, hset3⟩ := ho3.own (by omega)
      cases hg
      have ho4 := hset3 (j * 2 + 1) (.string ⟨#[]⟩) (by omega) rfl
      rw [fillV_set HP.out hlt] at ho4
      have hw3 := (hbel.setCell (p := ⟨w.heap.size, j * 2, none⟩) (Nat.le_refl _) (.int .i64 y)).setCell (p := ⟨w.heap.size, j * 2 + 1, none⟩) (Nat.le_refl _) (.string ⟨#[]⟩)
      clear hcell hfree hset ho hbel hb2 hd1 ho3 hset3
      go_wp2_with fail
      go_roundw
      case rel => exact ⟨j + 1, p ++ [(y, ⟨#[]⟩)], by omega, by go_num, Lib.hid (by rw [List.length_append, HP.out, List.length_singleton]), Lib.hid (by rw [HS.out, HT.out]), ho4, hw3⟩
      case measure => simp [intOf]; omega
    · skip
      obtain rfl : j = N := by omega
      have HE := Lib.hid (show p = ofN l by rw [HT.out, ← hl.out, List.take_length])
      go_wp2_with fail
      go_ret
      obtain ⟨A', C', hA, hC1, -, hv', -⟩ := ho.sv
      cases hA
      rw [Nat.sub_self, List.replicate_zero, List.append_nil, HE.out] at hv'
      exact ⟨rfl, hv', hbel⟩
set_option maxHeartbeats 2000000 in
theorem turnSV_any (A : Option Addr) (N C : Nat) (l : List ByteArray) (w : World) (hv : TV w A N l) (hN : N ≤ 2000) :
    Calls Tryz.prog 141 #[.slice A N C, .func (.func 142) #[] #[]] w fun e w' => TurnE (fun w a => WV w a N (ofT l)) w w' N e := by
  have hmk := make_vals N hN
  have hl := Lib.hid (TV.len hv)
  go_enter Tryz.func141, Tryz.ntmps141
  go_wp2_with fail
  clear hmk
  have o0 := OS.beginV (w := w) (few_max' (n := N) (by omega))
  have hw0 : Below w.heap.size w (w.alloc (.cells (vcells (List.replicate N v0)).toArray 62)) := Joins.below_alloc1 _ _
  go_loopw [13] (fun i wr => ∃ (j : Nat) (p : List (Int × ByteArray)), j ≤ N ∧ i = .int .i64 (j : Int) ∧ Hid (p.length = j) ∧ Hid (p = ofT (l.take j)) ∧ OS 2 wr w.heap.size (.slice (some ⟨w.heap.size, 0, none⟩) N N) N (vcells (p ++ List.replicate (N - j) v0)) ∧ Below w.heap.size w wr) (fun i _ => N - (intOf i).toNat)
  case atStart => exact ⟨0, [], by omega, rfl, Lib.hid rfl, Lib.hid rfl, o0, hw0⟩
  case round =>
    clear o0 hw0
    obtain ⟨j, p, hj, rfl, HP, HT, ho, hbel⟩ := hrel
    by_cases hlt : j < N
    · have hji : (j : Int) < (N : Int) := by omega
      obtain ⟨b, off, rfl, hd1⟩ := TV.at hv j hlt
      replace hd1 := keepc hd1 hbel
      have HS := Lib.hid (ofT_snoc (l := l) (j := j) (by rw [hl.out]; exact hlt))
      generalize l.getD j ⟨#[]⟩ = y at hd1 HS
      go_wp2_with fail
      refine (rb2_any y _).mono ?_
      rintro e w2 ⟨rfl, hb2⟩
      replace ho := ho.below hb2
      replace hbel := Below.then hbel hb2
      obtain ⟨g, cp, hg, -, -, -, hcell, hfree, hset⟩ := ho.own (by omega)
      cases hg
      have hcj := hcell (j * 2) _ (fillV_at0 HP.out hlt)
      have hck := hcell (j * 2 + 1) _ (fillV_at1 HP.out hlt)
      have hfj := hfree (j * 2)
      have hfk := hfree (j * 2 + 1)
      have ho3 := hset (j * 2) (.int .i64 0) (by omega) rfl
      obtain ⟨g, cp, hg, -, -, -, -, -, hset3⟩ := ho3.own (by omega)
      cases hg
      have ho4 := hset3 (j * 2 + 1) (.string y) (by omega) rfl
      rw [fillV_set HP.out hlt] at ho4
      have hw3 := (hbel.setCell (p := ⟨w.heap.size, j * 2, none⟩) (Nat.le_refl _) (.int .i64 0)).setCell (p := ⟨w.heap.size, j * 2 + 1, none⟩) (Nat.le_refl _) (.string y)
      clear hcell hfree hset ho hbel hb2 hd1 ho3 hset3
      go_wp2_with fail
      go_roundw
      case rel => exact ⟨j + 1, p ++ [(0, y)], by omega, by go_num, Lib.hid (by rw [List.length_append, HP.out, List.length_singleton]), Lib.hid (by rw [HS.out, HT.out]), ho4, hw3⟩
      case measure => simp [intOf]; omega
    · skip
      obtain rfl : j = N := by omega
      have HE := Lib.hid (show p = ofT l by rw [HT.out, ← hl.out, List.take_length])
      go_wp2_with fail
      go_ret
      obtain ⟨A', C', hA, hC1, -, hv', -⟩ := ho.sv
      cases hA
      rw [Nat.sub_self, List.replicate_zero, List.append_nil, HE.out] at hv'
      exact ⟨rfl, hv', hbel⟩
end Go.Proofs.YtbfihajgjbpmaaaGreat
/- Contracts of package block: isColumn, bare, Put. -/
namespace Go.Proofs.YtbfihajgjbpmaaaGreat
open Go.ChangeShapes Go.WideShapes Go.ChangeAt Go.RowKit
set_option linter.unusedVariables false
set_option maxRecDepth 4000

theorem fitAll_no {t : Int} {l : List (Int × ByteArray)} {j : Nat} (hj : j < l.length) (h : fitsB t (l.getD j v0).1 (l.getD j v0).2 = false) : fitAll t l = false := by
  cases hf : fitAll t l
  · rfl
  · have := fitAll_iff.1 hf (l.getD j v0) (by simp [List.getD, hj])
    rw [h] at this; cases this
theorem fitAll_yes {t : Int} {l : List (Int × ByteArray)} (h : ∀ i, i < l.length → fitsB t (l.getD i v0).1 (l.getD i v0).2 = true) : fitAll t l = true := by
  refine fitAll_iff.2 (fun v hv => ?_)
  obtain ⟨i, hi, rfl⟩ := List.getElem_of_mem hv
  have := h i hi
  simpa [List.getD, hi] using this
set_option maxHeartbeats 2000000 in
theorem index_any (t : Int) (h : Nat) (A : Option Addr) (N C : Nat) (l : List (Int × ByteArray)) (w : World) (hv : WV w A N l) (hN : N ≤ 1000000) (hc : w.cell? ⟨h, 0, none⟩ = some (.int .i64 t)) :
    Calls Tryz.prog 132 #[.slice A N C, .func (.func 116) #[] #[.pointer (some ⟨h, 0, none⟩)]] w fun e w' => ∃ i : Int, e = .returned (.int .i64 i) ∧ decide (0 ≤ i) = !fitAll t l ∧ Below w.heap.size w w' := by
  have hl := Lib.hid (WV.len hv)
  go_enter Tryz.func132, Tryz.ntmps132
  go_wp2_with fail
  go_loopw [8] (fun i wr => ∃ j : Nat, j ≤ N ∧ i = .int .i64 (j : Int) ∧ Hid (∀ i, i < j → fitsB t (l.getD i v0).1 (l.getD i v0).2 = true) ∧ Below w.heap.size w wr) (fun i _ => N - (intOf i).toNat)
  case atStart => exact ⟨0, by omega, rfl, Lib.hid (fun i hi => by omega), Below.refl _ _⟩
  case round =>
    obtain ⟨j, hj, rfl, HT, hbel⟩ := hrel
    by_cases hlt : j < N
    · have hji : (j : Int) < (N : Int) := by omega
      obtain ⟨b, off, rfl, hd1, hd2⟩ := WV.at hv j hlt
      replace hd1 := keepc hd1 hbel
      replace hd2 := keepc hd2 hbel
      have hcr := keepc hc hbel
      generalize hy : l.getD j v0 = y at hd1 hd2
      have HY := Lib.hid hy
      clear hy
      go_wp2_with fail
      refine (col1_any t y.1 y.2 h _ hcr).mono ?_
      rintro e w2 ⟨rfl, hb2⟩
      replace hbel := Below.then hbel hb2
      clear hb2 hd1 hd2 hcr
      cases h5 : fitsB t y.1 y.2
      · have no := Lib.hid (fitAll_no (t := t) (l := l) (j := j) (by rw [hl.out]; exact hlt) (by rw [HY.out]; exact h5))
        go_wp2_with fail
        go_ret
        exact ⟨_, rfl, by rw [no.out]; simp, hbel⟩
      · have HT' : Hid (∀ i, i < j + 1 → fitsB t (l.getD i v0).1 (l.getD i v0).2 = true) := Lib.hid (fun i hi => by
          by_cases hij : i < j
          · exact HT.out i hij
          · obtain rfl : i = j := by omega
            rw [HY.out]; exact h5)
        go_wp2_with fail
        go_roundw
        case rel => exact ⟨j + 1, by omega, by go_num, HT', hbel⟩
        case measure => simp [intOf]; omega
    · obtain rfl : j = N := by omega
      have ok := Lib.hid (fitAll_yes (t := t) (l := l) (fun i hi => HT.out i (by rw [← hl.out]; exact hi)))
      go_wp2_with fail
      go_ret
      exact ⟨_, rfl, by rw [ok.out]; rfl, hbel⟩
set_option maxHeartbeats 400000 in
theorem contains_any (t : Int) (h : Nat) (A : Option Addr) (N C : Nat) (l : List (Int × ByteArray)) (w : World) (hv : WV w A N l) (hN : N ≤ 1000000) (hc : w.cell? ⟨h, 0, none⟩ = some (.int .i64 t)) :
    Calls Tryz.prog 115 #[.slice A N C, .func (.func 116) #[] #[.pointer (some ⟨h, 0, none⟩)]] w fun e w' => e = .returned (.bool (!fitAll t l)) ∧ Below w.heap.size w w' := by
  go_enter Tryz.func115, Tryz.ntmps115
  go_wp2_with fail
  refine (index_any t h A N C l _ hv hN hc).mono ?_
  rintro e w1 ⟨i, rfl, hi, hb1⟩
  have HI := Lib.hid hi
  clear hi
  go_wp2_with fail
  go_ret
  exact ⟨by rw [← HI.out]; rfl, hb1⟩
theorem colB_big {t : Int} {l : List (Int × ByteArray)} (h : 2000 < l.length) : colB t l = false := by
  cases hf : colB t l
  · rfl
  · have := (colB_iff.1 hf).2.1; omega
theorem colB_type {t : Int} {l : List (Int × ByteArray)} (h : ¬ (1 ≤ t ∧ t ≤ 3)) : colB t l = false := by
  cases hf : colB t l
  · rfl
  · exact absurd (colB_iff.1 hf).1 h
theorem colB_fit {t : Int} {l : List (Int × ByteArray)} (ht : 1 ≤ t ∧ t ≤ 3) (hl : l.length ≤ 2000) : colB t l = fitAll t l := by
  rw [colB, decide_eq_true ht, decide_eq_true hl]; rfl
set_option maxHeartbeats 2000000 in
theorem iscol_any (t : Int) (A : Option Addr) (N C : Nat) (l : List (Int × ByteArray)) (w : World) (hv : WV w A N l) (hN : N ≤ 1000000) :
    Calls Tryz.prog 105 #[.int .i64 t, .slice A N C] w fun e w' => e = .returned (.bool (colB t l)) ∧ Below w.heap.size w w' := by
  have hl := Lib.hid (WV.len hv)
  have hc : (w.alloc (.cells #[.int .i64 t] 3)).cell? ⟨w.heap.size, 0, none⟩ = some (.int .i64 t) := by go_simp
  have hb0 : Below w.heap.size w (w.alloc (.cells #[.int .i64 t] 3)) := Joins.below_alloc1 _ _
  by_cases h2 : N ≤ 2000
  · have h2i : ¬ (2000 : Int) < (N : Int) := by omega
    have hz := fitsB_zero (t := t)
    by_cases ht : 1 ≤ t ∧ t ≤ 3
    · have HC := Lib.hid (colB_fit ht (l := l) (by rw [hl.out]; exact h2))
      rw [decide_eq_true ht] at hz
      clear ht
      go_enter Tryz.func105, Tryz.ntmps105
      go_wp2_with fail
      refine (fits_any t 0 ⟨#[]⟩ _).mono ?_
      rw [hz]
      rintro e w1 ⟨rfl, hb1⟩
      replace hv := (hv.below hb0).below hb1
      have hc1 := keepc hc hb1
      replace hb0 := Below.then hb0 hb1
      clear hb1 hc
      go_wp2_with fail
      refine (contains_any t _ A N C l _ hv hN hc1).mono ?_
      rintro e w2 ⟨rfl, hb2⟩
      replace hb0 := Below.then hb0 hb2
      go_wp2_with fail
      go_ret
      exact ⟨by rw [HC.out]; simp, hb0⟩
    · have HC := Lib.hid (colB_type (l := l) ht)
      rw [decide_eq_false ht] at hz
      clear ht
      go_enter Tryz.func105, Tryz.ntmps105
      go_wp2_with fail
      refine (fits_any t 0 ⟨#[]⟩ _).mono ?_
      rw [hz]
      rintro e w1 ⟨rfl, hb1⟩
      replace hb0 := Below.then hb0 hb1
      clear hb1 hc
      go_wp2_with fail
      go_ret
      exact ⟨by rw [HC.out]; rfl, hb0⟩
  · have h2i : (2000 : Int) < (N : Int) := by omega
    have HC := Lib.hid (colB_big (t := t) (l := l) (by rw [hl.out]; omega))
    go_enter Tryz.func105, Tryz.ntmps105
    go_wp2_with fail
    go_ret
    exact ⟨by rw [HC.out]; rfl, hb0⟩
set_option maxHeartbeats 2000000 in
theorem bare_any (t : Int) (A : Option Addr) (N C : Nat) (l : List (Int × ByteArray)) (w : World) (hv : WV w A N l) (hl : colB t l = true) (hr : RgV l) :
    Calls Tryz.prog 106 #[.int .i64 t, .slice A N C] w fun e w' => ∃ v, e = .returned v ∧ OW w' w.heap.size v (bareL t l) ∧ Below w.heap.size w w' := by
  have hN : N ≤ 2000 := by rw [← WV.len hv]; exact (colB_iff.1 hl).2.1
  have HL := Lib.hid hl
  by_cases h3 : t = 3
  · subst h3
    clear hl
    go_enter Tryz.func106, Tryz.ntmps106
    go_wp2_with fail
    refine (turnVS_any A N C l _ hv hN).mono ?_
    rintro e w1 ⟨rfl, tv, hb1⟩
    go_wp2_with fail
    refine (putT_any _ N N (txtsV l) _ tv (Few60.sm (col_okT HL.out).2) hN).mono ?_
    rintro e w2 ⟨v, rfl, ho, hb2⟩
    have hs := hb1.size
    go_wp2_with fail
    go_ret
    exact ⟨_, rfl, by rw [bare_txt]; exact ho.mono hs, Below.then hb1 hb2⟩
  · have ht : t = 1 ∨ t = 2 := by have := (colB_iff.1 hl).1; omega
    have HT := Lib.hid ht
    have hne : (t == 3) = false := by rw [beq_eq_false_iff_ne]; exact h3
    clear hl h3 ht
    go_enter Tryz.func106, Tryz.ntmps106
    go_wp2_with fail
    refine (turnVI_any A N C l _ hv hN).mono ?_
    rintro e w1 ⟨rfl, tv, hb1⟩
    go_wp2_with fail
    refine (putI_any _ N N (numsV l) _ tv (nums_i64 hr) (by omega)).mono ?_
    rintro e w2 ⟨v, rfl, ho, hb2⟩
    have hs := hb1.size
    go_wp2_with fail
    go_ret
    exact ⟨_, rfl, by rw [bare_num HT.out]; exact ho.mono hs, Below.then hb1 hb2⟩
/-- what Put tells -/
def PutB (w w' : World) (t : Int) (l : List (Int × ByteArray)) (e : Ending) : Prop :=
  (colB t l = true ∧ (∃ v, e = .returned (.tuple #[v, .bool true]) ∧ OW w' w.heap.size v (blockL t l)) ∧ Below w.heap.size w w') ∨
  (colB t l = false ∧ e = .returned (.tuple #[.slice none 0 0, .bool false]) ∧ Below w.heap.size w w')
theorem type_u8 {t : Int} (h : 1 ≤ t ∧ t ≤ 3) : IntKind.u8.wrap t = t := by rw [IntKind.wrap_u8']; omega
set_option maxHeartbeats 2000000 in
theorem bput_any (t : Int) (A : Option Addr) (N C : Nat) (l : List (Int × ByteArray)) (w : World) (hv : WV w A N l) (hr : RgV l) (hN : N ≤ 1000000) :
    Calls Tryz.prog 90 #[.int .i64 t, .slice A N C] w fun e w' => PutB w w' t l e := by
  go_enter Tryz.func90, Tryz.ntmps90
  go_wp2_with fail
  refine (iscol_any t A N C l _ hv hN).mono ?_
  cases hcol : colB t l
  · rintro e w1 ⟨rfl, hb1⟩
    have HC := Lib.hid hcol
    clear hcol
    go_wp2_with fail
    go_ret2
    exact .inr ⟨HC.out, rfl, hb1⟩
  · rintro e w1 ⟨rfl, hb1⟩
    have HC := Lib.hid hcol
    have hu := type_u8 (colB_iff.1 hcol).1
    have ht := (colB_iff.1 hcol).1
    replace hv := hv.below hb1
    have hbl := (bare_len hcol).2
    obtain ⟨L, hL⟩ : ∃ L, (bareL t l).length = L := ⟨_, rfl⟩
    rw [hL] at hbl
    have HL := Lib.hid hL
    clear hcol hL
    have ho0 := OW.one w1 t w1.heap.size (Nat.le_refl _) _ rfl
    have hv1 := hv.alloc (.cells #[.int .u8 t] 5)
    have hb2 : Below w1.heap.size w1 (w1.alloc (.cells #[.int .u8 t] 5)) := Joins.below_alloc1 _ _
    go_wp2_with fail
    refine (bare_any t A N C l _ hv1 HC.out hr).mono ?_
    rintro e w2 ⟨v2, rfl, ho2, hb3⟩
    replace hb2 := Below.then hb2 hb3
    have ho1 := ho0.below hb3
    obtain ⟨a2, c2, rfl, -, -, bv2, -⟩ := ho2.bvn (bare_bytes HC.out) L HL.out
    have hs2 := hb2.size
    clear ho0 ho2 hb3 hv1
    go_wp2_with (at_builtin; refine append_ow rfl (.tmp 13) (.tmp 16) rfl w1.heap.size _ [t] rfl ho1 a2 L c2 _ rfl bv2 (by simp; omega) hs2 ?_; intro v3 w3 ho3 hb3)
    replace hb2 := hb2.trans hb3
    have ho4 : OW w3 w1.heap.size v3 (dataL t l) := ho3
    obtain ⟨a4, c4, rfl, -, -, bv4, -⟩ := ho4.bvn (data_bytes HC.out) (L + 1) (by rw [dataL, List.length_cons, HL.out])
    clear ho1 ho3 ho4 hb3 bv2
    have hs3 := hb2.size
    refine (frame_any a4 (L + 1) c4 _ _ bv4 (by omega)).mono ?_
    rintro e w4 ⟨v5, rfl, ho5, hb5⟩
    have hs5 := hb1.size
    replace hb2 := Below.then hb2 hb5
    go_wp2_with fail
    go_ret2
    exact .inl ⟨HC.out, ⟨_, rfl, ho5.mono (by omega)⟩, Below.then hb1 hb2⟩
end Go.Proofs.YtbfihajgjbpmaaaGreat
/- Contracts of package block: readBare, Take. -/
namespace Go.Proofs.YtbfihajgjbpmaaaGreat
open Go.ChangeShapes Go.WideShapes Go.ChangeAt Go.RowKit
set_option linter.unusedVariables false
set_option maxRecDepth 4000

/-- what readBare tells -/
def ReadB (w w' : World) (t : Int) (zs : List Int) (e : Ending) : Prop :=
  (∃ (A : Option Addr) (N C : Nat) (l : List (Int × ByteArray)), e = .returned (.tuple #[.slice A N C, .int .i64 0]) ∧ Hid (C = N ∧ A ≠ none) ∧ N ≤ 2000 ∧ WV w' A N l ∧ colB t l = true ∧ RgV l ∧ bareL t l = zs ∧ Below w.heap.size w w') ∨
  (∃ v, e = .returned (.tuple #[v, .int .i64 10]) ∧ NoB t (t :: zs) ∧ Below w.heap.size w w')
set_option maxHeartbeats 2000000 in
theorem readBare_any (t : Int) (a : Option Addr) (n c : Nat) (zs : List Int) (w : World) (hv : BV w a n zs) (hc : n ≤ c) (hn : n ≤ 1000000) :
    Calls Tryz.prog 123 #[.int .i64 t, .slice a n c] w fun e w' => ReadB w w' t zs e := by
  by_cases h1 : t = 1
  · subst h1
    go_enter Tryz.func123, Tryz.ntmps123
    go_wp2_with fail
    refine (takeI_any a n c zs _ hv hc hn).mono ?_
    rintro e w1 he
    rcases he with ⟨A, N, C, l, rfl, hC, hN, hi, hl, hp, hb1⟩ | ⟨rfl, hno, hb1⟩
    · have HP := Lib.hid hp
      have hlen := IV.len hl
      have HL := Lib.hid hlen
      clear hp hlen
      go_wp2_with fail
      refine (turnIV_any A N C l _ hl hN).mono ?_
      rintro e w2 ⟨rfl, wv, hb2⟩
      go_wp2_with fail
      go_ret2
      exact .inl ⟨_, N, N, ofN l, rfl, Lib.hid ⟨rfl, by intro h; cases h⟩, hN, wv, colB_ofN (.inl rfl) (by rw [HL.out]; exact hN), ofN_rg hi, by rw [bare_num (.inl rfl), numsV_ofN, HP.out], Below.then hb1 hb2⟩
    · have HN := Lib.hid hno
      clear hno
      go_wp2_with fail
      refine (turnIV_any none 0 0 [] _ (SV.zero _ _) (by omega)).mono ?_
      rintro e w2 ⟨rfl, -, hb2⟩
      go_wp2_with fail
      go_ret2
      exact .inr ⟨_, rfl, noB_num (.inl rfl) HN.out, Below.then hb1 hb2⟩
  by_cases h2 : t = 2
  · subst h2
    go_enter Tryz.func123, Tryz.ntmps123
    go_wp2_with fail
    refine (takeI_any a n c zs _ hv hc hn).mono ?_
    rintro e w1 he
    rcases he with ⟨A, N, C, l, rfl, hC, hN, hi, hl, hp, hb1⟩ | ⟨rfl, hno, hb1⟩
    · have HP := Lib.hid hp
      have hlen := IV.len hl
      have HL := Lib.hid hlen
      clear hp hlen
      go_wp2_with fail
      refine (turnIV_any A N C l _ hl hN).mono ?_
      rintro e w2 ⟨rfl, wv, hb2⟩
      go_wp2_with fail
      go_ret2
      exact .inl ⟨_, N, N, ofN l, rfl, Lib.hid ⟨rfl, by intro h; cases h⟩, hN, wv, colB_ofN (.inr rfl) (by rw [HL.out]; exact hN), ofN_rg hi, by rw [bare_num (.inr rfl), numsV_ofN, HP.out], Below.then hb1 hb2⟩
    · have HN := Lib.hid hno
      clear hno
      go_wp2_with fail
      refine (turnIV_any none 0 0 [] _ (SV.zero _ _) (by omega)).mono ?_
      rintro e w2 ⟨rfl, -, hb2⟩
      go_wp2_with fail
      go_ret2
      exact .inr ⟨_, rfl, noB_num (.inr rfl) HN.out, Below.then hb1 hb2⟩
  by_cases h3 : t = 3
  · subst h3
    clear h1 h2
    go_enter Tryz.func123, Tryz.ntmps123
    go_wp2_with fail
    refine (takeT_any a n c zs _ hv hc).mono ?_
    rintro e w1 he
    rcases he with ⟨A, N, C, l, rfl, hC, hN, hi, hl, hp, hb1⟩ | ⟨rfl, hno, hb1⟩
    · have HP := Lib.hid hp
      have hlen := TV.len hl
      have HL := Lib.hid hlen
      clear hp hlen
      go_wp2_with fail
      refine (turnSV_any A N C l _ hl hN).mono ?_
      rintro e w2 ⟨rfl, wv, hb2⟩
      go_wp2_with fail
      go_ret2
      exact .inl ⟨_, N, N, ofT l, rfl, Lib.hid ⟨rfl, by intro h; cases h⟩, hN, wv, colB_ofT (by rw [HL.out]; exact hN) hi, ofT_rg l, by rw [bare_txt, txtsV_ofT, HP.out], Below.then hb1 hb2⟩
    · have HN := Lib.hid hno
      clear hno
      go_wp2_with fail
      refine (turnSV_any none 0 0 [] _ (SV.zero _ _) (by omega)).mono ?_
      rintro e w2 ⟨rfl, -, hb2⟩
      go_wp2_with fail
      go_ret2
      exact .inr ⟨_, rfl, noB_txt HN.out, Below.then hb1 hb2⟩
  · have HT := Lib.hid (noB_type (t := t) (D := t :: zs) (by omega))
    have e1 : (t == 1) = false := by rw [beq_eq_false_iff_ne]; exact h1
    have e2 : (t == 2) = false := by rw [beq_eq_false_iff_ne]; exact h2
    have e3 : (t == 3) = false := by rw [beq_eq_false_iff_ne]; exact h3
    clear h1 h2 h3
    go_enter Tryz.func123, Tryz.ntmps123
    go_wp2_with fail
    go_ret2
    exact .inr ⟨_, rfl, HT.out, Below.refl _ _⟩
theorem rowAt_own {w : World} {A : Option Addr} {N C : Nat} {l : List (Int × ByteArray)} (h : WV w A N l) (hC : C = N ∧ A ≠ none) (hN : N ≤ 2000) : RowAt w (.slice A N C) l :=
  ⟨A, N, C, rfl, by omega, by unfold maxLen; omega, WV.len h, h, fun ha => absurd ha hC.2⟩
theorem rowAt_nil (w : World) : RowAt w (.slice none 0 0) [] := ⟨none, 0, 0, rfl, Nat.le_refl _, Nat.zero_le _, rfl, SV.zero _ _, fun _ => rfl⟩
/-- what Take tells, and how it lies -/
def TakeC (w w' : World) (t : Int) (zs : List Int) (e : Ending) : Prop :=
  ∃ (A : Option Addr) (N C : Nat) (l : List (Int × ByteArray)) (s ev : Int), e = .returned (.tuple #[.slice A N C, .int .i64 s, .int .i64 ev]) ∧ N ≤ 2000 ∧ RowAt w' (.slice A N C) l ∧ Hid (SaysB t zs l s ev) ∧ Below w.heap.size w w'
/-- what Take tells -/
def TakeB (w w' : World) (t : Int) (zs : List Int) (e : Ending) : Prop :=
  ∃ (A : Option Addr) (N C : Nat) (l : List (Int × ByteArray)) (s ev : Int), e = .returned (.tuple #[.slice A N C, .int .i64 s, .int .i64 ev]) ∧ N ≤ 2000 ∧ WV w' A N l ∧ Hid (SaysB t zs l s ev) ∧ Below w.heap.size w w'
theorem unf_err {zs : List Int} : (unf zs).2.2 = 0 ∨ (unf zs).2.2 = 10 ∨ (unf zs).2.2 = 11 := by
  unfold unf
  split
  · simp
  · split <;> simp
theorem unf_dlen {zs : List Int} : (unf zs).1.length ≤ zs.length := by
  unfold unf
  split
  · simp
  · split
    · simp only [List.length_take, List.length_drop]; omega
    · simp
theorem unf_dbytes {zs : List Int} (h : ∀ z ∈ zs, 0 ≤ z ∧ z ≤ 255) : ∀ z ∈ (unf zs).1, 0 ≤ z ∧ z ≤ 255 := by
  unfold unf
  split
  · simp
  · split
    · exact fun z hz => h z (List.mem_of_mem_drop (List.mem_of_mem_take hz))
    · simp
set_option maxHeartbeats 2000000 in
theorem btakeC_any (t : Int) (a : Option Addr) (n c : Nat) (zs : List Int) (w : World) (hv : BV w a n zs) (hc : n ≤ c) (hn : n ≤ 1000000) :
    Calls Tryz.prog 109 #[.int .i64 t, .slice a n c] w fun e w' => TakeC w w' t zs e := by
  have hdl := unf_dlen (zs := zs)
  rw [hv.1] at hdl
  have hdb := unf_dbytes hv.2.1
  have her := unf_err (zs := zs)
  go_enter Tryz.func109, Tryz.ntmps109
  go_wp2_with fail
  refine (unframe_any a n c zs _ hv hc (by omega)).mono ?_
  obtain ⟨D, hD⟩ : ∃ D, (unf zs).1 = D := ⟨_, rfl⟩
  obtain ⟨s, hs⟩ : ∃ s, (unf zs).2.1 = s := ⟨_, rfl⟩
  obtain ⟨ev, hev⟩ : ∃ ev, (unf zs).2.2 = ev := ⟨_, rfl⟩
  rw [hD, hs, hev]
  rw [hD] at hdl hdb
  rw [hev] at her
  have HU : Hid (unf zs = (D, s, ev)) := Lib.hid (Prod.ext hD (Prod.ext hs hev))
  clear hD hs hev
  rintro e w1 ⟨v, rfl, ho, hb1⟩
  obtain ⟨m, hm⟩ : ∃ m, D.length = m := ⟨_, rfl⟩
  have HM := Lib.hid hm
  rw [hm] at hdl
  obtain ⟨a1, c1, rfl, hc1, -, bv, -⟩ := ho.bvn hdb m hm
  clear hm ho
  by_cases h0 : ev = 0
  · subst h0
    clear her
    cases D with
    | nil =>
      obtain rfl : m = 0 := by rw [← HM.out]; rfl
      have HS := Lib.hid (show SaysB t zs [] 0 10 from .inr (.inl ⟨rfl, rfl, rfl, by rw [HU.out], by rw [HU.out]; exact noB_nil t⟩))
      clear bv hdb
      go_wp2_with fail
      go_ret3
      exact ⟨_, 0, 0, [], 0, 10, rfl, by omega, rowAt_nil _, HS, hb1⟩
    | cons x r =>
      have hm1 : 1 ≤ m := by rw [← HM.out]; simp
      obtain ⟨a2, hsl0, bv2⟩ := bv.slice_lo 1 c1 hm1 hc1
      rw [show (x :: r).drop 1 = r from rfl] at bv2
      have hxb : 0 ≤ x ∧ x ≤ 255 := hdb x (List.mem_cons_self ..)
      obtain ⟨b, off, rfl, hcell⟩ := bv.opened hm1
      have hcw : w1.cell? ⟨b, off, none⟩ = some (.int .u8 x) := hcell 0 (by omega)
      have hsl : ∀ wx, (Instr.slice 26 (.slice (some ⟨b, off, none⟩) m c1) (some (.int .i64 1)) none none).run Tryz.prog wx = .ok (.slice a2 (m - 1) (c1 - 1)) wx := hsl0
      have hne : ((m : Int) == 0) = false := by rw [beq_eq_false_iff_ne]; omega
      have hn0 : 0 < m := by omega
      have hxw : IntKind.i64.wrap x = x := by rw [IntKind.wrap_i64]; omega
      clear hsl0 hcell bv hdb
      by_cases hx : x = t
      · subst hx
        go_wp2_with fail
        refine (readBare_any x a2 (m - 1) (c1 - 1) r _ bv2 (by omega) (by omega)).mono ?_
        rintro e w2 he
        rcases he with ⟨A, N, C, l, rfl, hC, hN, wv, hcol, hrg, hp, hb2⟩ | ⟨v, rfl, hno, hb2⟩
        · have HS := Lib.hid (show SaysB x zs l s 0 from .inl ⟨rfl, hcol, hrg, by rw [HU.out, dataL, hp]⟩)
          clear hcol hrg hp
          go_wp2_with fail
          go_ret3
          exact ⟨A, N, C, l, s, 0, rfl, hN, rowAt_own wv hC.out hN, HS, Below.then hb1 hb2⟩
        · have HS := Lib.hid (show SaysB x zs [] 0 10 from .inr (.inl ⟨rfl, rfl, rfl, by rw [HU.out], by rw [HU.out]; exact hno⟩))
          clear hno
          go_wp2_with fail
          go_ret3
          exact ⟨_, 0, 0, [], 0, 10, rfl, by omega, rowAt_nil _, HS, Below.then hb1 hb2⟩
      · have HS := Lib.hid (show SaysB t zs [] 0 10 from .inr (.inl ⟨rfl, rfl, rfl, by rw [HU.out], by rw [HU.out]; exact noB_head hx⟩))
        have hxe : (x == t) = false := by rw [beq_eq_false_iff_ne]; exact hx
        clear hx
        go_wp2_with fail
        go_ret3
        exact ⟨_, 0, 0, [], 0, 10, rfl, by omega, rowAt_nil _, HS, hb1⟩
  · have hne : (ev == 0) = false := by rw [beq_eq_false_iff_ne]; exact h0
    have HS := Lib.hid (show SaysB t zs [] 0 ev from .inr (.inr ⟨rfl, rfl, by rw [HU.out], h0⟩))
    clear bv hdb
    go_wp2_with fail
    go_ret3
    exact ⟨_, 0, 0, [], 0, ev, rfl, by omega, rowAt_nil _, HS, hb1⟩
theorem TakeC.b {w w' : World} {t : Int} {zs : List Int} {e : Ending} (h : TakeC w w' t zs e) : TakeB w w' t zs e := by
  obtain ⟨A, N, C, l, s, ev, h1, h2, h3, h4⟩ := h
  refine ⟨A, N, C, l, s, ev, h1, h2, ?_, h4⟩
  obtain ⟨A', L', C', e, -, -, -, q, -⟩ := h3
  cases e
  exact q
end Go.Proofs.YtbfihajgjbpmaaaGreat
