/- Texts that belong together, one behind the other: QBh, QBi, QBj. -/
import Derived.Test.YtbfihajgjbpmaaaGreatPrtA
import Derived.Test.YtbfihajgjbpmaaaGreatGrnC
import Derived.Test.YtbfihajgjbpmaaaGreatBlock
/- Stage 11, plain: how the bytes of granules are read. -/
namespace Go.Proofs.YtbfihajgjbpmaaaGreat
set_option linter.unusedVariables false
set_option maxRecDepth 4000

/-- the first columns of some rows -/
def colsF (l : List RowV) (x : Nat) : List RowV := (List.range x).map fun (k : Nat) => colL l (k : Int)
theorem colsF_len (l : List RowV) (x : Nat) : (colsF l x).length = x := by simp [colsF]
theorem colsF_snoc (l : List RowV) (x : Nat) : colsF l (x + 1) = colsF l x ++ [colL l (x : Int)] := by
  unfold colsF
  rw [List.range_succ, List.map_append]; rfl
theorem colsF_at {l : List RowV} {x T : Nat} (hx : x < T) : (colsF l T).getD x [] = colL l (x : Int) := by simp [colsF, List.getD, hx]
theorem colsF_ok {ts : List Int} {g : List RowV} (h : RowsOk ts g) (hT : 1 ≤ ts.length) : OkC (colsF g ts.length) ∧ ((colsF g ts.length).getD 0 []).length = g.length ∧ rowsC (colsF g ts.length) g.length = g := by
  have e : ∀ x, x < ts.length → ((colsF g ts.length).getD x []).length = g.length := fun x hx => by
    rw [colsF_at hx, h.col hx, List.length_map]
  refine ⟨⟨fun q => ?_, fun x hx => ?_⟩, e 0 hT, rows_back h.len⟩
  · have := colsF_len g ts.length
    rw [q] at this
    simp at this
    omega
  · rw [colsF_len] at hx
    rw [e x hx, e 0 hT]
/-- what is known of columns that were read so far -/
def TcI (ts zs : List Int) (cs : List RowV) (at0 x : Nat) : Prop := ∀ (g : List RowV) (rest : List Int), RowsOk ts g → g.length ≤ 2000 → zs = frsL (granD ts g) ++ rest → cs = colsF g at0 ∧ x = (colsB ts g at0).length
/-- no granule begins here -/
def NoG (ts zs : List Int) : Prop := ∀ (g : List RowV) (rest : List Int), RowsOk ts g → g.length ≤ 2000 → zs ≠ frsL (granD ts g) ++ rest
theorem TcI.zero (ts zs : List Int) : TcI ts zs [] 0 0 := fun g rest _ _ _ => ⟨by simp [colsF], by rw [colsB_zero]; rfl⟩
theorem gran_split {ts : List Int} {g : List RowV} {a : Nat} (ha : a < ts.length) : ∃ more, frsL (granD ts g) = colsB ts g a ++ (blockL (ts.getD a 0) (colL g (a : Int)) ++ more) := by
  have e2 : granD ts g = (granD ts g).take a ++ dataL (ts.getD a 0) (colL g (a : Int)) :: (granD ts g).drop (a + 1) := by
    have h1 := List.take_append_drop (a + 1) (granD ts g)
    rw [List.take_succ_eq_append_getElem (by rw [granD_len]; exact ha), List.append_assoc] at h1
    have h2 : (granD ts g)[a]'(by rw [granD_len]; exact ha) = dataL (ts.getD a 0) (colL g (a : Int)) := by simp [granD]
    rw [h2] at h1
    exact h1.symm
  refine ⟨frsL ((granD ts g).drop (a + 1)), ?_⟩
  conv => lhs; rw [e2]
  rw [frsL_app]; rfl
theorem TcI.says {ts zs : List Int} {cs : List RowV} {at0 x : Nat} (h : TcI ts zs cs at0 x) (ha : at0 < ts.length) (ht : Ty ts) {g : List RowV} {rest : List Int} (hg : RowsOk ts g) (hn : g.length ≤ 2000) (e : zs = frsL (granD ts g) ++ rest) :
    SaysB (ts.getD at0 0) (zs.drop x) (colL g (at0 : Int)) ((blockL (ts.getD at0 0) (colL g (at0 : Int))).length : Int) 0 := by
  obtain ⟨-, e2⟩ := h g rest hg hn e
  obtain ⟨more, hm⟩ := gran_split (g := g) ha
  have hc := hg.colB ht hn ha
  rw [e, hm, List.append_assoc, drop_app e2, List.append_assoc]
  exact says_back hc.1 hc.2.1 _
theorem TcI.next {ts zs : List Int} {cs : List RowV} {at0 x : Nat} {col : RowV} {s : Nat} (h : TcI ts zs cs at0 x) (ha : at0 < ts.length) (ht : Ty ts) (hs : SaysB (ts.getD at0 0) (zs.drop x) col (s : Int) 0) : TcI ts zs (cs ++ [col]) (at0 + 1) (x + s) := by
  intro g rest hg hn e
  obtain ⟨e1, e2⟩ := h g rest hg hn e
  obtain ⟨q1, q2, -⟩ := hs.one (h.says ha ht hg hn e)
  refine ⟨by rw [e1, q1, colsF_snoc], ?_⟩
  rw [colsB_next ha, List.length_append, e2]
  omega
theorem TcI.none {ts zs : List Int} {cs : List RowV} {at0 x : Nat} {col : RowV} {s ev : Int} (h : TcI ts zs cs at0 x) (ha : at0 < ts.length) (ht : Ty ts) (hs : SaysB (ts.getD at0 0) (zs.drop x) col s ev) (he : ev ≠ 0) : NoG ts zs := fun g rest hg hn e => by
  obtain ⟨-, -, q⟩ := hs.one (h.says ha ht hg hn e)
  exact he q
theorem SaysB.long {t : Int} {zs : List Int} {l : RowV} {s : Int} (h : SaysB t zs l s 0) (hz : Byt zs) : colB t l = true ∧ RgV l ∧ ∃ n : Nat, s = (n : Int) ∧ 1 ≤ n ∧ n ≤ zs.length := by
  rcases h with ⟨-, h1, h2, h3⟩ | ⟨-, -, h, -⟩ | ⟨-, -, h1, h2⟩
  · obtain ⟨n, e1, e2, e3⟩ := unf_told hz h3
    refine ⟨h1, h2, n, e1, ?_, e2⟩
    have := congrArg List.length e3
    rw [List.length_take] at this
    have := frame_pos (dataL t l)
    omega
  · cases h
  · exact absurd rfl h2
/-- columns that may be, as rows -/
theorem rowsC_ok {ts : List Int} {cs : List RowV} {n : Nat} (hl : cs.length = ts.length) (h : ∀ i, i < ts.length → colB (ts.getD i 0) (cs.getD i []) = true ∧ RgV (cs.getD i [])) (hn : ∀ i, i < cs.length → (cs.getD i []).length = n) : RowsOk ts (rowsC cs n) := by
  have at_ : ∀ r ∈ rowsC cs n, ∃ i, i < n ∧ r = cs.map fun c => c.getD i v0 := fun r hr => by
    obtain ⟨i, hi, rfl⟩ := List.mem_map.1 hr
    exact ⟨i, List.mem_range.1 hi, rfl⟩
  have cell : ∀ i, i < n → ∀ k, k < ts.length → (cs.map fun c => c.getD i v0).getD k v0 ∈ cs.getD k [] := fun i hi k hk => by
    have hk' : k < cs.length := by omega
    have e : (cs.map fun c => c.getD i v0).getD k v0 = (cs.getD k []).getD i v0 := by simp [List.getD, hk']
    have hlen := hn k hk'
    rw [e]
    have e2 : (cs.getD k []).getD i v0 = (cs.getD k [])[i]'(by omega) := by rw [List.getD_eq_getElem?_getD, List.getElem?_eq_getElem (by omega), Option.getD_some]
    rw [e2]; exact List.getElem_mem _
  refine ⟨fun r hr => ?_, fun r hr k hk => ?_, fun r hr v hv => ?_⟩
  · obtain ⟨i, hi, rfl⟩ := at_ r hr
    rw [List.length_map, hl]
  · obtain ⟨i, hi, rfl⟩ := at_ r hr
    exact (colB_iff.1 (h k hk).1).2.2 _ (cell i hi k hk)
  · obtain ⟨i, hi, rfl⟩ := at_ r hr
    obtain ⟨k, hk, rfl⟩ := List.mem_iff_getElem.1 hv
    rw [List.length_map, hl] at hk
    have e : (cs.map fun c => c.getD i v0)[k]'(by rw [List.length_map, hl]; exact hk) = (cs.map fun c => c.getD i v0).getD k v0 := by
      rw [List.getD_eq_getElem?_getD, List.getElem?_eq_getElem (by rw [List.length_map, hl]; exact hk), Option.getD_some]
    rw [e]
    exact (h k hk).2 _ (cell i hi k hk)
/-- what is told of one granule: it, and how many bytes -/
def OneG (ts zs : List Int) (g : List RowV) (s : Nat) : Prop := ∀ (g' : List RowV) (rest : List Int), RowsOk ts g' → g'.length ≤ 2000 → zs = frsL (granD ts g') ++ rest → g' = g ∧ s = (frsL (granD ts g')).length
theorem TcI.one {ts zs : List Int} {cs : List RowV} {x n : Nat} (h : TcI ts zs cs ts.length x) (hT : 1 ≤ ts.length) (hn : (cs.getD 0 []).length = n) : OneG ts zs (rowsC cs n) x := fun g' rest hg hl e => by
  obtain ⟨e1, e2⟩ := h g' rest hg hl e
  obtain ⟨-, q2, q3⟩ := colsF_ok hg hT
  rw [colsB_all] at e2
  refine ⟨?_, e2⟩
  rw [e1] at hn ⊢
  rw [← hn, q2, q3]
theorem TcI.odd {ts zs : List Int} {cs : List RowV} {x : Nat} (h : TcI ts zs cs ts.length x) (hT : 1 ≤ ts.length) (hn : ¬ OkC cs) : NoG ts zs := fun g' rest hg hl e => by
  obtain ⟨e1, -⟩ := h g' rest hg hl e
  exact hn (by rw [e1]; exact (colsF_ok hg hT).1)
/-- granules that may be -/
def GsOk (ts : List Int) (gs : List (List RowV)) : Prop := (∀ g ∈ gs, RowsOk ts g ∧ g.length ≤ 2000) ∧ gs.flatten.length ≤ 2000
/-- what is known of granules that were read so far -/
def RgI (ts zs : List Int) (acc : List RowV) (rb : List Int) : Prop := ∀ gs, GsOk ts gs → frsL (gs.flatMap (granD ts)) = zs → ∃ g1 g2, gs = g1 ++ g2 ∧ acc = g1.flatten ∧ rb = frsL (g2.flatMap (granD ts))
def NoGs (ts zs : List Int) : Prop := ∀ gs, GsOk ts gs → frsL (gs.flatMap (granD ts)) ≠ zs
theorem RgI.zero (ts zs : List Int) : RgI ts zs [] zs := fun gs _ e => ⟨[], gs, rfl, rfl, e.symm⟩
theorem RgI.at {ts zs : List Int} {acc : List RowV} {rb : List Int} (h : RgI ts zs acc rb) (hr : rb ≠ []) {gs : List (List RowV)} (hg : GsOk ts gs) (e : frsL (gs.flatMap (granD ts)) = zs) :
    ∃ g1 g g2, gs = g1 ++ g :: g2 ∧ acc = g1.flatten ∧ rb = frsL (granD ts g) ++ frsL (g2.flatMap (granD ts)) ∧ RowsOk ts g ∧ g.length ≤ 2000 ∧ acc.length + g.length ≤ 2000 := by
  obtain ⟨g1, g2, e1, e2, e3⟩ := h gs hg e
  cases g2 with
  | nil => exact absurd e3 hr
  | cons g g2 =>
    have hin := hg.1 g (by rw [e1]; simp)
    refine ⟨g1, g, g2, e1, e2, by rw [e3, List.flatMap_cons, frsL_app], hin.1, hin.2, ?_⟩
    have := hg.2
    rw [e1, List.flatten_append, List.flatten_cons, List.length_append, List.length_append, ← e2] at this
    omega
theorem RgI.next {ts zs : List Int} {acc g : List RowV} {rb : List Int} {s : Nat} (h : RgI ts zs acc rb) (hr : rb ≠ []) (ho : OneG ts rb g s) : RgI ts zs (acc ++ g) (rb.drop s) := fun gs hg e => by
  obtain ⟨g1, g', g2, e1, e2, e3, h1, h2, -⟩ := h.at hr hg e
  obtain ⟨rfl, hs⟩ := ho g' _ h1 h2 e3
  refine ⟨g1 ++ [g'], g2, by rw [e1]; simp, by rw [e2, List.flatten_append]; simp, ?_⟩
  rw [e3, drop_app hs]
theorem RgI.many {ts zs : List Int} {acc g : List RowV} {rb : List Int} {s : Nat} (h : RgI ts zs acc rb) (hr : rb ≠ []) (ho : OneG ts rb g s) (hm : 2000 < acc.length + g.length) : NoGs ts zs := fun gs hg e => by
  obtain ⟨g1, g', g2, e1, e2, e3, h1, h2, h3⟩ := h.at hr hg e
  obtain ⟨rfl, hs⟩ := ho g' _ h1 h2 e3
  omega
theorem RgI.none {ts zs : List Int} {acc : List RowV} {rb : List Int} (h : RgI ts zs acc rb) (hr : rb ≠ []) (hn : NoG ts rb) : NoGs ts zs := fun gs hg e => by
  obtain ⟨g1, g', g2, e1, e2, e3, h1, h2, h3⟩ := h.at hr hg e
  exact hn g' _ h1 h2 e3
theorem RgI.end_ {ts zs : List Int} {acc : List RowV} (h : RgI ts zs acc []) (hT : 1 ≤ ts.length) : ∀ gs, GsOk ts gs → frsL (gs.flatMap (granD ts)) = zs → gs.flatten = acc := fun gs hg e => by
  obtain ⟨g1, g2, e1, e2, e3⟩ := h gs hg e
  cases g2 with
  | nil => rw [e1, e2]; simp
  | cons g g2 =>
    have := congrArg List.length e3
    rw [List.flatMap_cons, frsL_app, List.length_append] at this
    cases hd : granD ts g with
    | nil => have := granD_len ts g; rw [hd] at this; simp at this; omega
    | cons d ds =>
      rw [hd, frsL, List.length_append] at this
      have := frame_pos d
      simp at *
      omega
end Go.Proofs.YtbfihajgjbpmaaaGreat
/- Stage 11: takeColumns. -/
namespace Go.Proofs.YtbfihajgjbpmaaaGreat
open Go.ChangeShapes Go.WideShapes Go.ChangeAt Go.RowKit
set_option linter.unusedVariables false
set_option maxRecDepth 4000

theorem make_cols (N : Nat) (h : N ≤ 1000000) (w : World) : (Instr.makeSlice 111 (.int .i64 (N : Int)) (.int .i64 (N : Int))).run Tryz.prog w = .ok (.slice (some ⟨w.heap.size, 0, none⟩) N N) (w.alloc (.cells (List.replicate N (Value.slice none 0 0)).toArray 45)) := by
  have := run_make_row' (P := Tryz.prog) 111 45 (.slice none 0 0) 24 Tryz.underlying111 (by kernel_rfl) rfl .i64 .i64 N (by omega) (by omega) w
  rw [madeCells_row] at this
  exact this
theorem pcF_slices (ps : List P9) (N : Nat) : ∀ x ∈ (pcF ps N).toList, ∃ a n c, x = .slice a n c := by
  intro x hx
  unfold pcF at hx
  simp only [List.mem_append, List.mem_replicate] at hx
  rcases hx with hx | ⟨-, rfl⟩
  · obtain ⟨p, -, rfl⟩ := List.mem_map.1 hx
    exact ⟨_, _, _, rfl⟩
  · exact ⟨_, _, _, rfl⟩
/-- a row does not lie among slices -/
theorem row_off {w : World} {v : Value} {vs : RowV} {gb N : Nat} {ps : List P9} {T : TypeId} (h : RowAt w v vs) (hb : Bk w gb (pcF ps N) T) : rowRep.rep w v vs (fun b => b ≠ gb) := by
  refine ⟨h, fun A L C hv => ?_⟩
  by_cases hL : L = 0
  · exact .inl hL
  obtain ⟨A', L', C', hv', q1, q2, q3, q4, q5⟩ := h
  rw [hv] at hv'
  cases hv'
  rcases q4.2.2 with q | ⟨b, off, rfl, hc⟩
  · exact absurd q hL
  · refine .inr fun y hy => ?_
    cases hy
    rintro rfl
    have hl : 0 < (vcells vs).length := by rw [q4.1]; omega
    have h0 := hc 0 _ (List.getElem?_eq_getElem hl)
    have hx : (vcells vs)[0] ∈ (pcF ps N).toList := by
      simp only [World.cell?] at h0
      rw [hb] at h0
      simp at h0
      exact Array.mem_toList_iff.2 (Array.mem_of_getElem? h0)
    obtain ⟨a, m, c, e⟩ := pcF_slices ps N _ hx
    cases vs with
    | nil => simp [vcells] at hl
    | cons z zs => simp [vcells] at e
/-- what takeColumns tells -/
def TcE (w w' : World) (ts zs : List Int) (e : Ending) : Prop :=
  ((∃ (R : Option Addr) (m c s : Nat) (g : List RowV), e = .returned (.tuple #[.slice R m c, .int .i64 (s : Int), .bool true]) ∧ m ≤ 2000 ∧ SlR rowRep [] w' R m g (fun b => w.heap.size ≤ b) ∧ (1 ≤ s ∧ s ≤ zs.length) ∧ Hid (RowsOk ts g) ∧ Hid (OneG ts zs g s)) ∨
    (∃ v1 v2, e = .returned (.tuple #[v1, v2, .bool false]) ∧ Hid (NoG ts zs))) ∧ Below w.heap.size w w'
set_option maxHeartbeats 4000000 in
theorem ptakec_any (A : Option Addr) (N C : Nat) (ts : List Int) (a : Option Addr) (n c : Nat) (zs : List Int) (w : World) (hv : IV w A N ts) (ht : Ty ts) (hN : 1 ≤ N ∧ N ≤ 64) (hb : BV w a n zs) (hc : n ≤ c) (hn : n ≤ 1000000) :
    Calls Tryz.prog 98 #[.slice A N C, .slice a n c] w fun e w' => TcE w w' ts zs e := by
  have hl := Lib.hid (IV.len hv)
  have HT := Lib.hid ht
  have hzl := Lib.hid hb.1
  have hby := Lib.hid hb.2.1
  have hmk := make_cols N (by omega)
  have hbk : Bk (w.alloc (.cells (List.replicate N (Value.slice none 0 0)).toArray 45)) w.heap.size (pcF [] N) 45 := by rw [pcF_nil]; exact Bk.new w _ _
  have hb2 := Joins.below_alloc1 w (.cells (List.replicate N (Value.slice none 0 0)).toArray 45)
  obtain ⟨hN1, hN2⟩ := hN
  clear ht
  go_enter Tryz.func98, Tryz.ntmps98
  go_wp2_with fail
  clear hmk
  simp only [List.toArray_replicate] at hbk hb2
  generalize w.alloc (.cells (Array.replicate N (Value.slice none 0 0)) 45) = w3 at *
  go_loopw [8, 9, 10, 11, 12, 13, 21] (fun bg v9 v10 v11 v12 v13 i wr => ∃ (j x : Nat) (ps : List P9), j ≤ N ∧ i = .int .i64 (j : Int) ∧ bg = .int .i64 (x : Int) ∧ x ≤ n ∧ (j = 0 ∨ 1 ≤ x) ∧ ps.length = j ∧ Hid (TcI ts zs (ps.map (·.2)) j x) ∧ Hid (∀ i, i < j → colB (ts.getD i 0) ((ps.map (·.2)).getD i []) = true ∧ RgV ((ps.map (·.2)).getD i [])) ∧ (∀ p ∈ ps, rowRep.rep wr (sV p.1) p.2 (fun b => b ≠ w.heap.size)) ∧ Bk wr w.heap.size (pcF ps N) 45 ∧ Below w.heap.size w wr) (fun _ _ _ _ _ _ i _ => N - (intOf i).toNat)
  case atStart => exact ⟨0, 0, [], by omega, rfl, rfl, by omega, .inl rfl, rfl, Lib.hid (TcI.zero ts zs), Lib.hid (fun i hi => by omega), (fun p hp => by cases hp), hbk, hb2⟩
  case round =>
    clear hbk hb2
    obtain ⟨j, x, ps, hj, rfl, rfl, hx, hx1, hpl, HI, HC, hpr, bk, hbw⟩ := hrel
    by_cases hlt : j < N
    · have hji : (j : Int) < (N : Int) := by omega
      have hjl : j < ts.length := by rw [hl.out]; exact hlt
      have hvr := hv.below hbw
      obtain ⟨bt, offt, rfl, hct⟩ := IV.at hvr j hlt
      obtain ⟨a2, hsl, bv2⟩ := (hb.below hbw).slice_lo x c hx hc
      obtain ⟨t, hte⟩ : ∃ t, ts.getD j 0 = t := ⟨_, rfl⟩
      rw [hte] at hct
      have HTE := Lib.hid hte
      clear hte hvr
      go_wp2_with fail
      refine (btakeC_any t a2 (n - x) (c - x) (zs.drop x) _ bv2 (by omega) (by omega)).mono ?_
      rintro e w4 ⟨A4, L4, C4, col, s, ev, rfl, hL4, row4, HS, hb4⟩
      have bk4 := bk.below hb4
      have hpr4 : ∀ p ∈ ps, rowRep.rep w4 (sV p.1) p.2 (fun b => b ≠ w.heap.size) := fun p hp => Rep.below rowRep (hpr p hp) hb4
      have hbw4 := Below.then hbw hb4
      clear bk hpr hb4 hbw bv2 hsl hct
      by_cases hev : ev = 0
      · subst hev
        obtain ⟨k1, k2, m, rfl, hm1, hm2⟩ := HS.out.long (fun z hz => hby.out z (List.mem_of_mem_drop hz))
        rw [List.length_drop, hzl.out] at hm2
        have HI2 := Lib.hid (HI.out.next hjl HT.out (by rw [HTE.out]; exact HS.out))
        have hro := row_off row4 bk4
        have hcs := bk4.cell ps.length (pcF_at (by omega))
        have hfs := bk4.free ps.length
        rw [hpl] at hcs hfs
        have bk5 := bk4.set ps.length (sV ((A4, L4, C4), col).1)
        rw [pcF_set _ (by omega), hpl] at bk5
        have hb5 := hbw4.setCell (p := ⟨w.heap.size, j, none⟩) (Nat.le_refl _) (.slice A4 L4 C4)
        have HK := Lib.hid (And.intro k1 k2)
        have hwx : IntKind.i64.wrap ((x : Int) + (m : Int)) = (x : Int) + (m : Int) := by rw [IntKind.wrap_i64]; omega
        clear bk4 hbw4 HI HS k1 k2 hjl
        go_wp2_with fail
        have hset : ∀ b, b ≠ w.heap.size → (w4.setCell ⟨w.heap.size, j, none⟩ (.slice A4 L4 C4)).heap[b]? = w4.heap[b]? := fun b hb => Below.heap_setCell _ _ _ _ hb
        have hpr5 : ∀ p ∈ ps ++ [((A4, L4, C4), col)], rowRep.rep (w4.setCell ⟨w.heap.size, j, none⟩ (.slice A4 L4 C4)) (sV p.1) p.2 (fun b => b ≠ w.heap.size) := fun p hp => by
          rcases List.mem_append.1 hp with hp | hp
          · exact rowRep.frame (hpr4 p hp) (fun b hb _ => hset b hb)
          · rw [List.mem_singleton.1 hp]
            exact rowRep.frame hro (fun b hb _ => hset b hb)
        have HC5 : Hid (∀ i, i < j + 1 → colB (ts.getD i 0) (((ps ++ [((A4, L4, C4), col)]).map (·.2)).getD i []) = true ∧ RgV (((ps ++ [((A4, L4, C4), col)]).map (·.2)).getD i [])) := Lib.hid (fun i hi => by
          rw [List.map_append]
          by_cases hij : i < j
          · have e : (ps.map (·.2) ++ [((A4, L4, C4), col)].map (·.2)).getD i [] = (ps.map (·.2)).getD i [] := by rw [List.getD_eq_getElem?_getD, List.getElem?_append_left (by rw [List.length_map, hpl]; exact hij), ← List.getD_eq_getElem?_getD]
            rw [e]; exact HC.out i hij
          · obtain rfl : i = j := by omega
            have e : (ps.map (·.2) ++ [((A4, L4, C4), col)].map (·.2)).getD i [] = col := by rw [List.getD_eq_getElem?_getD, List.getElem?_append_right (by rw [List.length_map, hpl]; exact Nat.le_refl _), List.length_map, hpl, Nat.sub_self]; rfl
            rw [e, HTE.out]; exact HK.out)
        have hpl5 : (ps ++ [((A4, L4, C4), col)]).length = j + 1 := by rw [List.length_append, hpl]; rfl
        have HI5 : Hid (TcI ts zs ((ps ++ [((A4, L4, C4), col)]).map (·.2)) (j + 1) (x + m)) := by rw [List.map_append]; exact HI2
        clear hpr4 hro hset hcs hfs HC HI2
        go_roundw
        case rel => exact ⟨j + 1, x + m, _, by omega, by go_num, by go_num, by omega, .inr (by omega), hpl5, HI5, HC5, hpr5, bk5, hb5⟩
        case measure => simp [intOf]; omega
      · have HNG := Lib.hid (HI.out.none hjl HT.out (by rw [HTE.out]; exact HS.out) hev)
        have hev' : ¬ ev = 0 := hev
        clear HI HC hpr4 bk4 HS row4
        go_wp2_with fail
        go_ret3
        exact ⟨.inr ⟨_, _, rfl, HNG⟩, hbw4⟩
    · have hji : ¬ (j : Int) < (N : Int) := by omega
      obtain rfl : j = N := by omega
      have hrv := RVs.of (pcF_full bk hpl) (fun p hp => (hpr p hp).1)
      obtain ⟨cs, hcs⟩ : ∃ cs, ps.map (·.2) = cs := ⟨_, rfl⟩
      rw [hcs] at hrv HI HC
      have hcl : Hid (cs.length = ts.length) := by show _ = _; rw [← hcs, List.length_map, hl.out, hpl]
      have h0 := (colB_iff.1 (HC.out 0 (by omega)).1).2.1
      have HI2 : Hid (TcI ts zs cs ts.length x) := by rw [hl.out]; exact HI
      clear hpr bk hcs HI
      go_wp2_with fail
      refine (growsF_any (some ⟨w.heap.size, 0, none⟩) j j cs _ hrv (by omega) (by omega)).mono ?_
      rintro e w6 ⟨he, hb6⟩
      have hbw6 := Below.then hbw hb6
      rcases he with ⟨hok, A6, C6, rfl, h61, h62, h63, rv6⟩ | ⟨hbad, rfl⟩
      · obtain ⟨m0, hm0⟩ : ∃ m0, (cs.getD 0 []).length = m0 := ⟨_, rfl⟩
        rw [hm0] at rv6 h0 ⊢
        have hone := Lib.hid (HI2.out.one (by rw [hl.out]; exact hN1) hm0)
        have hrok := Lib.hid (rowsC_ok hcl.out (fun i hi => HC.out i (by rw [← hl.out]; exact hi)) (fun i hi => by rw [hok.2 i hi, hm0]))
        have hwz := hbw.size
        have rv7 := rv6.wider (F' := fun b => w.heap.size ≤ b) (fun b hb => Nat.le_trans hwz hb)
        clear hm0 hok HI2 HC rv6
        go_wp2_with fail
        go_ret3
        exact ⟨.inl ⟨A6, m0, C6, x, _, rfl, h0, rv7, ⟨by omega, by rw [hzl.out]; exact hx⟩, hrok, hone⟩, hbw6⟩
      · have HNG := Lib.hid (HI2.out.odd (by rw [hl.out]; exact hN1) hbad)
        clear hbad HI2 HC
        go_wp2_with fail
        go_ret3
        exact ⟨.inr ⟨_, _, rfl, HNG⟩, hbw6⟩
end Go.Proofs.YtbfihajgjbpmaaaGreat
/- Stage 11: readGranules. -/
namespace Go.Proofs.YtbfihajgjbpmaaaGreat
open Go.ChangeShapes Go.WideShapes Go.ChangeAt Go.RowKit
set_option linter.unusedVariables false
set_option maxRecDepth 4000

theorem SlR.pairs {w : World} {a : Option Addr} {n : Nat} {l : List RowV} {F : Nat → Prop} (h : SlR rowRep [] w a n l F) : ∃ qs : List P9, SV 1 w a n (pc qs) ∧ qs.map (·.2) = l ∧ ∀ p ∈ qs, rowRep.rep w (sV p.1) p.2 F := by
  obtain ⟨qs, h1, h2, h3⟩ := h.rvs.pairs
  have hl : qs.length = n := by have := h1.1; rw [pc_len] at this; omega
  refine ⟨qs, h1, h2, fun p hp => ?_⟩
  obtain ⟨i, hi, rfl⟩ := List.mem_iff_getElem.1 hp
  obtain ⟨b, off, u, rfl, hc, hr⟩ := h.at i (by omega)
  obtain ⟨b', off', e, hc'⟩ := pc_cell h1 (i := i) (by omega)
  cases e
  rw [hc] at hc'
  have e1 : qs.getD i p9 = qs[i] := by simp [List.getD, hi]
  have e2 : l.getD i [] = qs[i].2 := by rw [← h2]; simp [List.getD, hi]
  rw [e1] at hc'
  cases hc'
  rw [e2] at hr
  exact hr
theorem RowsOk.app {ts : List Int} {a b : List RowV} (h : RowsOk ts a) (k : RowsOk ts b) : RowsOk ts (a ++ b) :=
  ⟨fun r hr => (List.mem_append.1 hr).elim (h.len r) (k.len r), fun r hr => (List.mem_append.1 hr).elim (h.fit r) (k.fit r), fun r hr => (List.mem_append.1 hr).elim (h.rg r) (k.rg r)⟩
theorem RowsOk.nil (ts : List Int) : RowsOk ts [] := ⟨(fun r hr => by cases hr), (fun r hr => by cases hr), (fun r hr => by cases hr)⟩
/-- what readGranules tells -/
def RgE (w w' : World) (ts zs : List Int) (e : Ending) : Prop :=
  ((∃ (R : Option Addr) (m c : Nat) (l : List RowV), e = .returned (.tuple #[.slice R m c, .bool true]) ∧ m ≤ 2000 ∧ SlR rowRep [] w' R m l (fun b => w.heap.size ≤ b) ∧ m ≤ c ∧ Hid (RowsOk ts l) ∧ Hid (∀ gs, GsOk ts gs → frsL (gs.flatMap (granD ts)) = zs → gs.flatten = l)) ∨
    (e = .returned (.tuple #[.slice none 0 0, .bool false]) ∧ Hid (NoGs ts zs))) ∧ Below w.heap.size w w'
set_option maxHeartbeats 4000000 in
theorem preadg_any (A : Option Addr) (N C : Nat) (ts : List Int) (a : Option Addr) (n c : Nat) (zs : List Int) (w : World) (hv : IV w A N ts) (ht : Ty ts) (hN : 1 ≤ N ∧ N ≤ 64) (hb : BV w a n zs) (hc : n ≤ c) (hn : n ≤ 1000000) :
    Calls Tryz.prog 71 #[.slice A N C, .slice a n c] w fun e w' => RgE w w' ts zs e := by
  have hl := Lib.hid (IV.len hv)
  have HT := Lib.hid ht
  have hrz := Lib.hid (RgI.zero ts zs)
  clear ht
  go_enter Tryz.func71, Tryz.ntmps71
  go_wp2_with fail
  go_loopw [1, 6, 7, 8, 9] (fun bv o v7 v8 v9 wr => ∃ (a' : Option Addr) (n' c' m : Nat) (rb : List Int) (ps : List P9), bv = .slice a' n' c' ∧ BV w a' n' rb ∧ n' ≤ c' ∧ n' ≤ 1000000 ∧ m ≤ 2000 ∧ OS 1 wr w.heap.size o m (pc ps) ∧ (∀ p ∈ ps, rowRep.rep wr (sV p.1) p.2 (fun b => w.heap.size ≤ b ∧ o.ownBlock ≠ some b)) ∧ Hid (RgI ts zs (ps.map (·.2)) rb) ∧ Hid (RowsOk ts (ps.map (·.2))) ∧ Below w.heap.size w wr) (fun bv _ _ _ _ _ => match bv with | .slice _ k _ => k | _ => 0)
  case atStart => exact ⟨a, n, c, 0, zs, [], rfl, hb, hc, hn, by omega, OS.nil _ _, (fun p hp => by cases hp), hrz, Lib.hid (RowsOk.nil ts), Below.refl _ _⟩
  case round =>
    clear hrz hb hc hn
    obtain ⟨a', n', c', m, rb, ps, rfl, hb, hc, hn, hm, ho, hpr, HI, HR, hbw⟩ := hrel
    have hrl := Lib.hid hb.1
    have hpl := Lib.hid (show ps.length = m by have := ho.1; rw [pc_len] at this; omega)
    by_cases hlt : 0 < n'
    · have hni : (0 : Int) < (n' : Int) := by omega
      have hne : Hid (rb ≠ []) := Lib.hid (fun h => by have := hrl.out; rw [h] at this; simp at this; omega)
      go_wp2_with fail
      refine (ptakec_any A N C ts a' n' c' rb _ (hv.below hbw) HT.out hN (hb.below hbw) hc hn).mono ?_
      rintro e w4 ⟨he, hb4⟩
      have ho4 := ho.below hb4
      have hwr := hbw.size
      have hpr4 : ∀ p ∈ ps, rowRep.rep w4 (sV p.1) p.2 (fun b => (w.heap.size ≤ b ∧ u6.ownBlock ≠ some b) ∧ b < w4.heap.size) := fun p hp => rowRep.shrink (Rep.below rowRep (hpr p hp) hb4)
      have hbw4 := Below.then hbw hb4
      have hown : Hid (∀ b, u6.ownBlock = some b → b < wr.heap.size) := Lib.hid (fun b hb => by
        rcases ho.2.2 with ⟨h, _⟩ | ⟨g, cap, cur, T, h, hg, hh, _⟩
        · rw [h] at hb; cases hb
        · rw [h] at hb; cases hb; exact lt_of_block hh)
      clear ho hpr hbw hb4
      rcases he with ⟨R4, m4, c4, s, g, rfl, hm4, sl4, ⟨hs1, hs2⟩, HG, HO⟩ | ⟨v1, v2, rfl, HN⟩
      · rw [hrl.out] at hs2
        have hgl := Lib.hid sl4.1
        have hwm : IntKind.i64.wrap ((m : Int) + (m4 : Int)) = (m : Int) + (m4 : Int) := by rw [IntKind.wrap_i64]; omega
        obtain ⟨a6, c6, rfl⟩ := ho4.shape
        by_cases hbig : 2000 < m + m4
        · have hbi : (2000 : Int) < (m : Int) + (m4 : Int) := by omega
          have HNG := Lib.hid (HI.out.many hne.out HO.out (by rw [List.length_map, hpl.out, hgl.out]; exact hbig))
          clear HI HO sl4 hpr4 ho4
          go_wp2_with fail
          go_ret2
          exact ⟨.inr ⟨rfl, HNG⟩, hbw4⟩
        · have hbi : ¬ (2000 : Int) < (m : Int) + (m4 : Int) := by omega
          have HI2 := Lib.hid (HI.out.next hne.out HO.out)
          obtain ⟨gs, sv4, hgs, hpg⟩ := sl4.pairs
          have HGS := Lib.hid hgs
          obtain ⟨a5, hsl, bv5⟩ := hb.slice_lo s c' hs2 hc
          have hp6 : ∀ p ∈ gs, rowRep.rep w4 (sV p.1) p.2 (fun b => wr.heap.size ≤ b ∧ b < w4.heap.size) := fun p hp => rowRep.shrink (hpg p hp)
          clear HI HO sl4 hgs hpg
          go_wp2_with (at_builtin; refine append_os2 el_rows rfl (.tmp 30) (.tmp 31) rfl w.heap.size _ m _ rfl ho4 _ m4 c4 (pc gs) rfl sv4 (by omega) (by omega) hbw4.size ?_; intro v5 w5 ho5 hb5 hk5 hst5)
          rw [← pc_app] at ho5
          have hbw5 := hbw4.trans hb5
          have hw45 := hbw4.size
          have hpr5 : ∀ p ∈ ps ++ gs, rowRep.rep w5 (sV p.1) p.2 (fun b => w.heap.size ≤ b ∧ v5.ownBlock ≠ some b) := fun p hp => by
            rcases List.mem_append.1 hp with hp | hp
            · refine rowRep.wider (rowRep.frame (hpr4 p hp) (fun b hb hlt => hst5 b hlt hb.1.2)) (fun b hb => ⟨hb.1.1, fun e => ?_⟩)
              rcases hk5 with hk | hk
              · rw [hk] at e; exact hb.1.2 e
              · rw [hk] at e; cases e; omega
            · refine rowRep.wider (rowRep.frame (hp6 p hp) (fun b hb hlt => hst5 b hlt (fun e => by have := hown.out b e; omega))) (fun b hb => ⟨by omega, fun e => ?_⟩)
              rcases hk5 with hk | hk
              · rw [hk] at e; have := hown.out b e; omega
              · rw [hk] at e; cases e; omega
          have HI5 : Hid (RgI ts zs ((ps ++ gs).map (·.2)) (rb.drop s)) := by rw [List.map_append, HGS.out]; exact HI2
          have HR5 : Hid (RowsOk ts ((ps ++ gs).map (·.2))) := by rw [List.map_append, HGS.out]; exact Lib.hid (HR.out.app HG.out)
          clear hpr4 hp6 hst5 hk5 HI2 hb5 ho4 sv4 hown
          go_roundw
          case rel => exact ⟨a5, n' - s, c' - s, m + m4, _, _, rfl, bv5, by omega, by omega, by omega, ho5, hpr5, HI5, HR5, hbw5⟩
          case measure => simp; omega
      · have HNG := Lib.hid (HI.out.none hne.out HN.out)
        clear HI HN hpr4 ho4
        go_wp2_with fail
        go_ret2
        exact ⟨.inr ⟨rfl, HNG⟩, hbw4⟩
    · have hni : ¬ (0 : Int) < (n' : Int) := by omega
      obtain rfl : n' = 0 := by omega
      have hrb : rb = [] := List.eq_nil_of_length_eq_zero hrl.out
      subst hrb
      have HE := Lib.hid (HI.out.end_ (by rw [hl.out]; exact hN.1))
      obtain ⟨a7, c7, rfl, h71, h72, sv7, hf7, -⟩ := ho.sv
      have hsl := slR_of (F := fun b => w.heap.size ≤ b) sv7 (fun p hp => rowRep.wider (hpr p hp) (fun b h => h.1)) hf7
      clear hpr ho sv7 HI
      go_wp2_with fail
      go_ret2
      exact ⟨.inl ⟨a7, m, c7, _, rfl, hm, hsl, h71, HR, HE⟩, hbw⟩
end Go.Proofs.YtbfihajgjbpmaaaGreat
