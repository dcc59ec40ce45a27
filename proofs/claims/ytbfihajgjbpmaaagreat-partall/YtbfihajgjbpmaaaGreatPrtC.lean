/- Texts that belong together, one behind the other: QBk, QBl, QBe, QBm. -/
import Derived.Test.YtbfihajgjbpmaaaGreatPrtB
import Derived.Test.YtbfihajgjbpmaaaGreatPartP
import Derived.Test.YtbfihajgjbpmaaaGreatBase
import Derived.Test.YtbfihajgjbpmaaaGreatSchD
import Derived.Test.YtbfihajgjbpmaaaGreatPrtA
import Derived.Test.YtbfihajgjbpmaaaGreatGrnB
/- Stage 11, plain: what bytes say as a part. -/
namespace Go.Proofs.YtbfihajgjbpmaaaGreat
set_option linter.unusedVariables false
set_option maxRecDepth 4000

/-- no part has these bytes -/
def NoP (zs : List Int) : Prop := ∀ ts K m G l, PartOk ts K m G l → partL ts K m G l ≠ zs
/-- if a part has these bytes, it is this one -/
def IsP (zs ts : List Int) (k m g : Int) (l : List RowV) : Prop := ∀ ts' K m' G l', PartOk ts' K m' G l' → partL ts' K m' G l' = zs → ts' = ts ∧ (K : Int) = k ∧ m' = m ∧ (G : Int) = g ∧ l' = l
theorem part_unf {ts : List Int} {K : Nat} {m : Int} {G : Nat} {l : List RowV} (h : PartOk ts K m G l) : unf (partL ts K m G l) = (putS ts (K : Int) m (G : Int), ((frameL (putS ts (K : Int) m (G : Int))).length : Int), 0) := by
  obtain ⟨rest, e⟩ := part_head ts K m G l
  rw [e]
  exact unf_frame _ _ (by have := (schema_small h.check).2; omega)
theorem nop_unf {zs : List Int} (h : (unf zs).2.2 ≠ 0) : NoP zs := fun ts K m G l hp e => h (by rw [← e, part_unf hp])
theorem nop_head {zs D : List Int} (hD : (unf zs).1 = D) (h : NoS D) : NoP zs := fun ts K m G l hp e => h ts K m G hp.check (by rw [← hD, ← e, part_unf hp])
/-- where the parts of a part lie -/
theorem part_lie {ts : List Int} {K : Nat} {m : Int} {G : Nat} {l : List RowV} (h : PartOk ts K m G l) {B : Nat} (hB : B = (frameL (putS ts (K : Int) m (G : Int))).length) :
    B ≤ fromN ts K m G l ∧ fromN ts K m G l + 13 ≤ (partL ts K m G l).length ∧ ((partL ts K m G l).drop B).take (fromN ts K m G l - B) = frsL (bodyD ts G l) := by
  have e1 : fromN ts K m G l = B + (frsL (bodyD ts G l)).length := by
    unfold fromN frontD
    rw [frsL, List.length_append, hB]; rfl
  have h2 := from_lt ts K m G l
  refine ⟨by omega, by omega, ?_⟩
  have e2 : partL ts K m G l = frameL (putS ts (K : Int) m (G : Int)) ++ (frsL (bodyD ts G l) ++ (frsL (marksD ts K (marksL G K l) ++ [dataL 2 (placesV ts K m G l)]) ++ w8 (fromN ts K m G l : Int))) := by
    unfold partL partD
    rw [frsL, frsL_app]
    simp only [List.append_assoc]
  rw [e2, drop_app hB, e1, Nat.add_sub_cancel_left, List.take_left]
theorem part_end {ts : List Int} {K : Nat} {m : Int} {G : Nat} {l : List RowV} (h : PartOk ts K m G l) {B n : Nat} (hn : (partL ts K m G l).length = n) (hB : B = (frameL (putS ts (K : Int) m (G : Int))).length) :
    max B (n - 8) = n - 8 ∧ 8 ≤ n ∧ acc8 ((partL ts K m G l).drop (max B (n - 8))) 8 = (fromN ts K m G l : Int) := by
  obtain ⟨h1, h2, -⟩ := part_lie h hB
  obtain ⟨h3, h4⟩ := part_last ts K m G l
  rw [hn] at h2 h3 h4
  have e : max B (n - 8) = n - 8 := by omega
  refine ⟨e, h4, ?_⟩
  rw [e, h3]
  have := h.from_le
  have h5 := acc8_put (fromN ts K m G l : Int) [] (by omega) (by omega)
  rwa [List.append_nil] at h5
theorem gs_split {ts : List Int} {K : Nat} {m : Int} {G : Nat} {l : List RowV} (h : PartOk ts K m G l) : GsOk ts (splitL G l) := ⟨split_ok h.rows h.most, by rw [split_flat h.nums.2.2.1.1]; exact h.most⟩
/-- what the place of the marks tells -/
theorem nop_end {zs ts : List Int} {k m g : Int} {B n : Nat} {E : Int} (hn : zs.length = n) (hu : unf zs = (putS ts k m g, (B : Int), 0)) (hE : n - max B (n - 8) < 8 ∨ acc8 (zs.drop (max B (n - 8))) 8 = E ∧ (E < (B : Int) ∨ (n : Int) < E)) : NoP zs := fun ts' K' m' G' l' hp e => by
  subst e
  have hu2 := part_unf hp
  rw [hu2] at hu
  have hB : B = (frameL (putS ts' (K' : Int) m' (G' : Int))).length := by have := congrArg (fun z : List Int × Int × Int => z.2.1) hu; simp only at this; omega
  obtain ⟨q1, q2, q3⟩ := part_end hp hn hB
  obtain ⟨h1, h2, -⟩ := part_lie hp hB
  rw [hn] at h2
  rcases hE with hE | ⟨hE, hE2⟩
  · omega
  · rw [q3] at hE
    omega
/-- the granules between -/
theorem gs_of {zs ts : List Int} {k m g : Int} {B n : Nat} {E : Nat} (hk : checkB ts k m g = true) (hn : zs.length = n) (hu : unf zs = (putS ts k m g, (B : Int), 0)) (hE : acc8 (zs.drop (max B (n - 8))) 8 = (E : Int)) {ts' : List Int} {K' : Nat} {m' : Int} {G' : Nat} {l' : List RowV} (hp : PartOk ts' K' m' G' l') (e : partL ts' K' m' G' l' = zs) :
    (ts' = ts ∧ (K' : Int) = k ∧ m' = m ∧ (G' : Int) = g) ∧ frsL ((splitL G' l').flatMap (granD ts)) = (zs.drop B).take (E - B) := by
  subst e
  have hu2 := part_unf hp
  rw [hu2] at hu
  have hS : putS ts' (K' : Int) m' (G' : Int) = putS ts k m g := congrArg (fun z : List Int × Int × Int => z.1) hu
  have hB : B = (frameL (putS ts' (K' : Int) m' (G' : Int))).length := by have := congrArg (fun z : List Int × Int × Int => z.2.1) hu; simp only at this; omega
  obtain ⟨rfl, e2, e3, e4⟩ := putS_inj hp.check hk hS
  refine ⟨⟨rfl, e2, e3, e4⟩, ?_⟩
  obtain ⟨q1, q2, q3⟩ := part_end hp hn hB
  obtain ⟨h1, h2, h3⟩ := part_lie hp hB
  rw [q3] at hE
  have : fromN ts' K' m' G' l' = E := by omega
  rw [this] at h3
  rw [h3]; rfl
theorem nop_gs {zs ts : List Int} {k m g : Int} {B n : Nat} {E : Nat} (hk : checkB ts k m g = true) (hn : zs.length = n) (hu : unf zs = (putS ts k m g, (B : Int), 0)) (hE : acc8 (zs.drop (max B (n - 8))) 8 = (E : Int)) (h : NoGs ts ((zs.drop B).take (E - B))) : NoP zs := fun ts' K' m' G' l' hp e => by
  obtain ⟨⟨rfl, -⟩, q⟩ := gs_of hk hn hu hE hp e
  exact h _ (gs_split hp) q
theorem isp_gs {zs ts : List Int} {k m g : Int} {B n : Nat} {E : Nat} {l : List RowV} (hk : checkB ts k m g = true) (hn : zs.length = n) (hu : unf zs = (putS ts k m g, (B : Int), 0)) (hE : acc8 (zs.drop (max B (n - 8))) 8 = (E : Int)) (h : ∀ gs, GsOk ts gs → frsL (gs.flatMap (granD ts)) = (zs.drop B).take (E - B) → gs.flatten = l) : IsP zs ts k m g l := fun ts' K' m' G' l' hp e => by
  obtain ⟨⟨rfl, e1, e2, e3⟩, q⟩ := gs_of hk hn hu hE hp e
  refine ⟨rfl, e1, e2, e3, ?_⟩
  have := h _ (gs_split hp) q
  rwa [split_flat hp.nums.2.2.1.1] at this
/-- of bytes that are not written again as they are there is none -/
theorem IsP.no {zs ts : List Int} {k m g : Int} {l : List RowV} (h : IsP zs ts k m g l) (hn : ∀ K G : Nat, (K : Int) = k → (G : Int) = g → PartOk ts K m G l → partL ts K m G l ≠ zs) : NoP zs := fun ts' K' m' G' l' hp e => by
  obtain ⟨rfl, e1, rfl, e3, rfl⟩ := h _ _ _ _ _ hp e
  exact hn K' G' e1 e3 hp e
end Go.Proofs.YtbfihajgjbpmaaaGreat
/- Stage 11: read. -/
namespace Go.Proofs.YtbfihajgjbpmaaaGreat
open Go.ChangeShapes Go.WideShapes Go.ChangeAt Go.RowKit
set_option linter.unusedVariables false
set_option maxRecDepth 4000

theorem BV.slice_lhu {w : World} {a : Option Addr} {n : Nat} {zs : List Int} (h : BV w a n zs) (k m c : Nat) (hk : k ≤ m) (hm : m ≤ n) (hc : n ≤ c) :
    ∃ a', (∀ wx, (Instr.slice 26 (.slice a n c) (some (.int .i64 (k : Int))) (some (.int .u64 (m : Int))) none).run Tryz.prog wx = .ok (.slice a' (m - k) (c - k)) wx) ∧ BV w a' (m - k) ((zs.drop k).take (m - k)) := by
  refine ⟨_, fun wx => ?_, (h.cutA k c (by omega) hc).take (m - k) (by omega)⟩
  rw [run_slice_lh wx 26 a n c underB .i64 .u64 (k : Int) (m : Int) (by omega) (by omega) (by omega), sizeB]
  simp only [Result.andThen, sliced, Nat.mul_one, Int.toNat_natCast]
theorem max8_is (b n : Nat) (w : World) : (Builtin.max_ #[3, 3] 3 #[.int .i64 (b : Int), .int .i64 ((n : Int) - 8)]).run Tryz.prog w = .ok (.int .i64 ((max b (n - 8) : Nat) : Int)) w := by
  have e : (((max b (n - 8)) : Nat) : Int) = if (b : Int) < (n : Int) - 8 then (n : Int) - 8 else b := by split <;> omega
  rw [e]
  simp [Builtin.max_, Builtin.max2]
theorem ld_tb {w : World} (b : Nat) {A : Option Addr} {N C : Nat} {k m g : Int} {R : Option Addr} {n c : Nat} {T : TypeId} (h : Bk w b (TbA A N C k m g R n c) T) : (loadVar 66 ⟨b, 0, none⟩).run Tryz.prog w = .ok (TbV A N C k m g R n c) w := by
  obtain ⟨h0, h1, h2, h3, h4⟩ := h.tb
  go_simp
theorem res_tb2 {fn : Func} {p u : Tmp} (h : fn.results = #[.cell p 66, .tmp u]) (tmps : Array Value) {w : World} (b : Nat) {A : Option Addr} {N C : Nat} {k m g : Int} {R : Option Addr} {n c : Nat} {T : TypeId} (hp : tmps.getD p undef = .pointer (some ⟨b, 0, none⟩)) (hc : Bk w b (TbA A N C k m g R n c) T) :
    (results fn tmps).run Tryz.prog w = .ok (.tuple #[TbV A N C k m g R n c, tmps.getD u undef]) w := by
  rw [results_cell_tmp h, hp]
  simp [Result.andThen, asAddr, ld_tb b hc]
theorem Bk.put5 {w : World} {b : Nat} {x0 x1 x2 x3 x4 : Value} {T : TypeId} (h : Bk w b #[x0, x1, x2, x3, x4] T) (y0 y1 y2 y3 y4 : Value) :
    Bk (((((w.setCell ⟨b, 0, none⟩ y0).setCell ⟨b, 1, none⟩ y1).setCell ⟨b, 2, none⟩ y2).setCell ⟨b, 3, none⟩ y3).setCell ⟨b, 4, none⟩ y4) b #[y0, y1, y2, y3, y4] T := ((((h.set 0 y0).set 1 y1).set 2 y2).set 3 y3).set 4 y4
/-- what read tells -/
def ReadP (w w' : World) (zs : List Int) (e : Ending) : Prop :=
  ((∃ (A : Option Addr) (N C : Nat) (ts : List Int) (k m g : Int) (R : Option Addr) (n c : Nat) (l : List RowV), e = .returned (.tuple #[TbV A N C k m g R n c, .bool true]) ∧ Hid (checkB ts k m g = true) ∧ N ≤ C ∧ IV w' A N ts ∧ n ≤ 2000 ∧ n ≤ c ∧ SlR rowRep [] w' R n l (fun b => w.heap.size ≤ b) ∧ Hid (RowsOk ts l) ∧ Hid (IsP zs ts k m g l)) ∨
    (∃ (A : Option Addr) (N C : Nat) (k m g : Int) (R : Option Addr) (n c : Nat), e = .returned (.tuple #[TbV A N C k m g R n c, .bool false]) ∧ Hid (NoP zs))) ∧ Below w.heap.size w w'
theorem RgE.get {w w' : World} {ts zs : List Int} {e : Ending} (h : RgE w w' ts zs e) : ∃ (R : Option Addr) (m c : Nat) (ok : Bool), e = .returned (.tuple #[.slice R m c, .bool ok]) ∧ Hid ((ok = true ∧ m ≤ 2000 ∧ m ≤ c ∧ ∃ l, SlR rowRep [] w' R m l (fun b => w.heap.size ≤ b) ∧ RowsOk ts l ∧ ∀ gs, GsOk ts gs → frsL (gs.flatMap (granD ts)) = zs → gs.flatten = l) ∨ (ok = false ∧ NoGs ts zs)) ∧ Below w.heap.size w w' := by
  obtain ⟨⟨R, m, c, l, h1, h2, h3, h4, h5, h6⟩ | ⟨h1, h2⟩, hb⟩ := h
  · exact ⟨R, m, c, true, h1, Lib.hid (.inl ⟨rfl, h2, h4, l, h3, h5.out, h6.out⟩), hb⟩
  · exact ⟨none, 0, 0, false, h1, Lib.hid (.inr ⟨rfl, h2.out⟩), hb⟩
abbrev nil5 : Array Value := TbA none 0 0 0 0 0 none 0 0
/-- types do not lie in an empty table -/
theorem iv_off {w : World} {A : Option Addr} {N : Nat} {ts : List Int} {b : Nat} {T : TypeId} (h : IV w A N ts) (ht : Ty ts) (hN : 1 ≤ N) (hb : Bk w b nil5 T) : ∀ x, A = some x → x.block ≠ b := by
  intro x hx e
  obtain ⟨b', off, rfl, hc⟩ := IV.at h 0 (by omega)
  cases hx
  have e' : b' = b := e
  subst e'
  have hl : 0 < ts.length := by have := IV.len h; omega
  have h1 := ht _ (List.getElem_mem hl)
  have e2 : ts.getD 0 0 = ts[0] := by simp [List.getD, hl]
  rw [e2] at hc
  have hx : (Value.int .i64 ts[0]) ∈ nil5.toList := by
    simp only [World.cell?] at hc
    rw [hb] at hc
    have := hc
    simp only [Option.isSome_none] at this
    exact Array.mem_toList_iff.2 (Array.mem_of_getElem? (by simpa using this))
  simp at hx
  omega
set_option maxHeartbeats 4000000 in
theorem pread_any (a : Option Addr) (n c : Nat) (zs : List Int) (w : World) (hb : BV w a n zs) (hc : n ≤ c) (hn : n ≤ 1000000) :
    Calls Tryz.prog 39 #[.slice a n c] w fun e w' => ReadP w w' zs e := by
  have hzl := Lib.hid hb.1
  have hby := Lib.hid hb.2.1
  have hdl := unf_dlen (zs := zs)
  rw [hb.1] at hdl
  have hdb := unf_dbytes hb.2.1
  have t0 := Bk.new w nil5 66
  have hb0 := Joins.below_alloc1 w (.cells nil5 66)
  go_enter Tryz.func39, Tryz.ntmps39
  go_wp2_with fail
  refine (unframe_any a n c zs _ (hb.below hb0) hc (by omega)).mono ?_
  obtain ⟨D, hD⟩ : ∃ D, (unf zs).1 = D := ⟨_, rfl⟩
  obtain ⟨s, hs⟩ : ∃ s, (unf zs).2.1 = s := ⟨_, rfl⟩
  obtain ⟨ev, hev⟩ : ∃ ev, (unf zs).2.2 = ev := ⟨_, rfl⟩
  rw [hD, hs, hev]
  rw [hD] at hdl hdb
  have HU : Hid (unf zs = (D, s, ev)) := Lib.hid (Prod.ext hD (Prod.ext hs hev))
  clear hD hs hev
  rintro e w1 ⟨v, rfl, ho, hb1⟩
  obtain ⟨md, hm⟩ : ∃ md, D.length = md := ⟨_, rfl⟩
  rw [hm] at hdl
  obtain ⟨a1, c1, rfl, hc1, -, bv, -⟩ := ho.bvn hdb md hm
  have t1 := t0.below hb1
  have hw1 := Below.then hb0 hb1
  clear hm ho t0 hb0 hb1 hdb
  by_cases h0 : ev = 0
  rotate_left
  · have hne : ¬ ev = 0 := h0
    have HN := Lib.hid (nop_unf (zs := zs) (by rw [HU.out]; exact h0))
    clear h0
    obtain ⟨d0, d1, d2, d3, d4⟩ := t1.tb
    have f0 := t1.free 0
    have f1 := t1.free 1
    have f2 := t1.free 2
    have f3 := t1.free 3
    have f4 := t1.free 4
    go_wp2_with fail
    refine bodyPost_ret (res_tb2 rfl _ _ rfl (Bk.put5 t1 (.slice none 0 0) (.int .i64 0) (.int .i64 0) (.int .i64 0) (.slice none 0 0))) rfl ⟨.inr ⟨_, _, _, _, _, _, _, _, _, rfl, HN⟩, ?_⟩
    exact ((((hw1.setCell (by simp) _).setCell (by simp) _).setCell (by simp) _).setCell (by simp) _).setCell (by simp) _
  subst h0
  obtain ⟨B, rfl, hBn, -⟩ := unf_told hby.out HU.out
  rw [hzl.out] at hBn
  go_wp2_with fail
  refine (takeS_any a1 md c1 D _ bv hc1 (by omega)).mono ?_
  rintro e w2 (⟨A, N, C, ts, k, m, g, rfl, hNC, hk, hp, iv, hb2⟩ | ⟨rfl, hno, hb2⟩)
  rotate_left
  · have HN := Lib.hid (nop_head (zs := zs) (D := D) (by rw [HU.out]) hno)
    have t2 := (t1.below hb2).alloc (.cells #[.slice none 0 0, .int .i64 0, .int .i64 0, .int .i64 0] 24)
    have hw2 := Below.then hw1 hb2
    have hw3 := hw2.alloc hw2.size (.cells #[.slice none 0 0, .int .i64 0, .int .i64 0, .int .i64 0] 24)
    clear hno t1 hw1 hb2 bv hw2
    obtain ⟨d0, d1, d2, d3, d4⟩ := t2.tb
    have f0 := t2.free 0
    have f1 := t2.free 1
    have f2 := t2.free 2
    have f3 := t2.free 3
    have f4 := t2.free 4
    go_wp2_with fail
    refine bodyPost_ret (res_tb2 rfl _ _ rfl (Bk.put5 t2 (.slice none 0 0) (.int .i64 0) (.int .i64 0) (.int .i64 0) (.slice none 0 0))) rfl ⟨.inr ⟨_, _, _, _, _, _, _, _, _, rfl, HN⟩, ?_⟩
    exact ((((hw3.setCell (by simp) _).setCell (by simp) _).setCell (by simp) _).setCell (by simp) _).setCell (by simp) _
  have t2 := (t1.below hb2).alloc (.cells #[.slice A N C, .int .i64 k, .int .i64 m, .int .i64 g] 24)
  have hw2 := Below.then hw1 hb2
  have hw3 := hw2.alloc hw2.size (.cells #[.slice A N C, .int .i64 k, .int .i64 m, .int .i64 g] 24)
  have x3 := Bk.new w2 #[.slice A N C, .int .i64 k, .int .i64 m, .int .i64 g] 24
  have iv3 := iv.alloc (.cells #[.slice A N C, .int .i64 k, .int .i64 m, .int .i64 g] 24)
  have hk9 := check_is hk
  have HK := Lib.hid hk
  have HPT := Lib.hid hp
  have hln := IV.len iv
  rw [hln] at hk9
  have hN64 : 1 ≤ N ∧ N ≤ 64 := by omega
  have HT : Hid (Ty ts) := Lib.hid hk9.2.2.2.2.2.2.2.2
  clear hk9 hk hp t1 hw1 hb2 bv hw2 iv hln
  have hmx := max8_is B n
  have hw8 : IntKind.i64.wrap ((n : Int) - 8) = (n : Int) - 8 := by rw [IntKind.wrap_i64]; omega
  obtain ⟨M, hM⟩ : ∃ M, max B (n - 8) = M := ⟨_, rfl⟩
  rw [hM] at hmx
  have hMn : M ≤ n := by omega
  have HMM := Lib.hid hM
  obtain ⟨a4, hsl4, bv4⟩ := (hb.below hw3).slice_lo M c hMn hc
  clear hM
  go_wp2_with fail
  generalize w2.alloc (.cells #[.slice A N C, .int .i64 k, .int .i64 m, .int .i64 g] 24) = w3 at *
  generalize w2.heap.size = sb at *
  refine (get64_any a4 (n - M) (c - M) (zs.drop M) _ bv4).mono ?_
  rintro e w4 ⟨rfl, hb4⟩
  have t4 := t2.below hb4
  have hw4 := Below.then hw3 hb4
  have x4 := x3.below hb4
  have iv4 := SV.below iv3 hb4
  have hlenM : (zs.drop M).length = n - M := by rw [List.length_drop, hzl.out]
  clear t2 hw3 x3 iv3 hb4 bv4 hmx hsl4 hw8
  have hU2 : Hid (unf zs = (putS ts k m g, (B : Int), 0)) := Lib.hid (by rw [HU.out, HPT.out])
  by_cases h8 : n - M < 8
  · have HN := Lib.hid (nop_end (zs := zs) (n := n) (E := 0) hzl.out hU2.out (.inl (by rw [HMM.out]; exact h8)))
    simp only [h8, if_true, decide_true, Bool.not_true]
    clear hlenM
    obtain ⟨d0, d1, d2, d3, d4⟩ := t4.tb
    have f0 := t4.free 0
    have f1 := t4.free 1
    have f2 := t4.free 2
    have f3 := t4.free 3
    have f4 := t4.free 4
    go_wp2_with fail
    refine bodyPost_ret (res_tb2 rfl _ _ rfl (Bk.put5 t4 (.slice none 0 0) (.int .i64 0) (.int .i64 0) (.int .i64 0) (.slice none 0 0))) rfl ⟨.inr ⟨_, _, _, _, _, _, _, _, _, rfl, HN⟩, ?_⟩
    exact ((((hw4.setCell (by simp) _).setCell (by simp) _).setCell (by simp) _).setCell (by simp) _).setCell (by simp) _
  have hbd := acc8_bd (zs.drop M) (fun z hz => hby.out z (List.mem_of_mem_drop hz)) 8 (by rw [hlenM]; omega)
  simp only [h8, if_false, decide_false, Bool.not_false]
  obtain ⟨E0, hE0⟩ : ∃ E0, acc8 (zs.drop M) 8 = E0 := ⟨_, rfl⟩
  rw [hE0] at hbd ⊢
  have HE0 := Lib.hid hE0
  have hBu : IntKind.u64.wrap (B : Int) = (B : Int) := by rw [IntKind.wrap_u64]; omega
  have hnu : IntKind.u64.wrap (n : Int) = (n : Int) := by rw [IntKind.wrap_u64]; omega
  clear hE0 hlenM
  have HACC : Hid (acc8 (zs.drop (max B (n - 8))) 8 = E0) := Lib.hid (by rw [HMM.out]; exact HE0.out)
  by_cases hq1 : E0 < (B : Int)
  · have HN := Lib.hid (nop_end (zs := zs) (n := n) (E := E0) hzl.out hU2.out (.inr ⟨HACC.out, .inl hq1⟩))
    obtain ⟨d0, d1, d2, d3, d4⟩ := t4.tb
    have f0 := t4.free 0
    have f1 := t4.free 1
    have f2 := t4.free 2
    have f3 := t4.free 3
    have f4 := t4.free 4
    go_wp2_with fail
    refine bodyPost_ret (res_tb2 rfl _ _ rfl (Bk.put5 t4 (.slice none 0 0) (.int .i64 0) (.int .i64 0) (.int .i64 0) (.slice none 0 0))) rfl ⟨.inr ⟨_, _, _, _, _, _, _, _, _, rfl, HN⟩, ?_⟩
    exact ((((hw4.setCell (by simp) _).setCell (by simp) _).setCell (by simp) _).setCell (by simp) _).setCell (by simp) _
  by_cases hq2 : (n : Int) < E0
  · have HN := Lib.hid (nop_end (zs := zs) (n := n) (E := E0) hzl.out hU2.out (.inr ⟨HACC.out, .inr hq2⟩))
    obtain ⟨d0, d1, d2, d3, d4⟩ := t4.tb
    have f0 := t4.free 0
    have f1 := t4.free 1
    have f2 := t4.free 2
    have f3 := t4.free 3
    have f4 := t4.free 4
    go_wp2_with fail
    refine bodyPost_ret (res_tb2 rfl _ _ rfl (Bk.put5 t4 (.slice none 0 0) (.int .i64 0) (.int .i64 0) (.int .i64 0) (.slice none 0 0))) rfl ⟨.inr ⟨_, _, _, _, _, _, _, _, _, rfl, HN⟩, ?_⟩
    exact ((((hw4.setCell (by simp) _).setCell (by simp) _).setCell (by simp) _).setCell (by simp) _).setCell (by simp) _
  obtain ⟨E, rfl⟩ : ∃ E : Nat, E0 = (E : Int) := ⟨E0.toNat, by omega⟩
  have hBE : B ≤ E := by omega
  have hEn : E ≤ n := by omega
  have hcd : ¬ ((E : Int) < (B : Int) ∨ (n : Int) < (E : Int)) := by omega
  obtain ⟨a5, hsl5, bv5⟩ := BV.slice_lhu (hb.below hw4) B E c hBE hEn hc
  obtain ⟨x0, x1, x2, x3⟩ := x4.sx
  have cc := preadg_any A N C ts a5 (E - B) (c - B) ((zs.drop B).take (E - B)) w4.drew (SV.below iv4 (Below.refl _ _).drew) HT.out hN64 (bv5.below (Below.refl _ _).drew) (by omega) (by omega)
  go_wp2_with fail
  refine wp_region_noPanic ?_
  refine region_g 6 (Ext (World.drew _)) (by kernel_rfl) (Ext.refl _) (fun hS => ?_)
  refine take_w (i := 0) (v := ?_) (some 56) rfl (by kernel_rfl) rfl (fun _ _ _ h => h) (Or.inl ⟨by rfl, ?_⟩) hS ?_
  rotate_left
  · (intro wq hq; go_simp); first | done | with_reducible rfl
  try simp only [Act.put, List.setIfInBounds_toArray, List.set_cons_zero, List.set_cons_succ]
  replace hS := Till.list 0 hS
  refine take_w (i := 2) (v := ?_) (some 58) rfl (by kernel_rfl) rfl (fun _ _ _ h => h) (Or.inl ⟨by rfl, ?_⟩) hS ?_
  rotate_left
  · (intro wq hq; go_simp); first | done | with_reducible rfl
  try simp only [Act.put, List.setIfInBounds_toArray, List.set_cons_zero, List.set_cons_succ]
  replace hS := Till.list 2 hS
  refine take_w (i := 3) (v := ?_) (some 59) rfl (by kernel_rfl) rfl (fun _ _ _ h => h) (Or.inl ⟨by rfl, ?_⟩) hS ?_
  rotate_left
  · (intro wq hq; go_simp); first | done | with_reducible rfl
  try simp only [Act.put, List.setIfInBounds_toArray, List.set_cons_zero, List.set_cons_succ]
  replace hS := Till.list 3 hS
  refine take_w (i := 4) (v := ?_) (some 60) rfl (by kernel_rfl) rfl (fun _ _ _ h => h) (Or.inl ⟨by rfl, ?_⟩) hS ?_
  rotate_left
  · (intro wq hq; go_simp); first | done | with_reducible rfl
  try simp only [Act.put, List.setIfInBounds_toArray, List.set_cons_zero, List.set_cons_succ]
  replace hS := Till.list 4 hS
  refine take_g (i := 1) (v := ?_) [1] (some 57) rfl (by kernel_rfl) rfl (fun _ _ _ h => h) (Or.inl ⟨by rfl, ?_⟩) hS ?_
  rotate_left
  · (intro wq hq; have q0 := hq _ _ _ x0; have q1 := hq _ _ _ x1; have q2 := hq _ _ _ x2; have q3 := hq _ _ _ x3; go_simp); first | done | with_reducible rfl
  try simp only [Act.put, List.setIfInBounds_toArray, List.set_cons_zero, List.set_cons_succ]
  replace hS := Till.list 1 hS
  refine take_g (i := 5) (v := .slice a5 (E - B) (c - B)) [5] (some 61) rfl (by kernel_rfl) rfl (fun _ _ _ h => h) (Or.inl ⟨by rfl, ?_⟩) hS ?_
  · (intro wq hq; (have := hsl5; go_simp))
  try simp only [Act.put, List.setIfInBounds_toArray, List.set_cons_zero, List.set_cons_succ]
  replace hS := Till.list 5 hS
  refine ready_g (rs := [6]) (by kernel_rfl) (by simp) ?_
  refine AllReadyG.cons rfl (fun Kont hK => ?_) AllReadyG.nil
  go_simp
  refine cc.mono ?_
  rintro e w5 he
  obtain ⟨R5, m5, c5, ok, rfl, HOK, hb5⟩ := he.get
  clear he
  refine hK.out _ _ (Or.inl (by kernel_rfl)) (fun hS0 => ?_)
  clear hK Kont
  try simp only [Act.put, List.setIfInBounds_toArray, List.set_cons_zero, List.set_cons_succ]
  clear hS
  have hS := hS0
  clear hS0
  refine take_w (i := 7) (v := ?_) (some 55) rfl (by kernel_rfl) rfl (fun _ _ _ h => h) (Or.inl ⟨by rfl, ?_⟩) hS ?_
  rotate_left
  · (intro wq hq; go_simp); first | done | with_reducible rfl
  try simp only [Act.put, List.setIfInBounds_toArray, List.set_cons_zero, List.set_cons_succ]
  replace hS := Till.list 7 hS
  refine take_w (i := 8) (v := ?_) (some 63) rfl (by kernel_rfl) rfl (fun _ _ _ h => h) (Or.inl ⟨by rfl, ?_⟩) hS ?_
  rotate_left
  · (intro wq hq; go_simp); first | done | with_reducible rfl
  try simp only [Act.put, List.setIfInBounds_toArray, List.set_cons_zero, List.set_cons_succ]
  replace hS := Till.list 8 hS
  refine take_w (i := 9) (v := ?_) (some 64) rfl (by kernel_rfl) rfl (fun _ _ _ h => h) (Or.inl ⟨by rfl, ?_⟩) hS ?_
  rotate_left
  · (intro wq hq; go_simp); first | done | with_reducible rfl
  try simp only [Act.put, List.setIfInBounds_toArray, List.set_cons_zero, List.set_cons_succ]
  replace hS := Till.list 9 hS
  refine take_w (i := 10) (v := ?_) (some 10) rfl (by kernel_rfl) rfl (fun _ _ _ h => h) (Or.inl ⟨by rfl, ?_⟩) hS ?_
  rotate_left
  · (intro wq hq; go_simp); first | done | with_reducible rfl
  try simp only [Act.put, List.setIfInBounds_toArray, List.set_cons_zero, List.set_cons_succ]
  replace hS := Till.list 10 hS
  refine take_w (i := 11) (v := ?_) (some 9) rfl (by kernel_rfl) rfl (fun _ _ _ h => h) (Or.inl ⟨by rfl, ?_⟩) hS ?_
  rotate_left
  · (intro wq hq; go_simp); first | done | with_reducible rfl
  try simp only [Act.put, List.setIfInBounds_toArray, List.set_cons_zero, List.set_cons_succ]
  replace hS := Till.list 11 hS
  refine done_g (by kernel_rfl) (NoPanic.normal ?_) _
  clear hS
  have hb5' := (Below.refl w4.heap.size w4).drew.trans hb5
  have t5 := t4.below hb5'
  have x5 := x4.below hb5'
  have iv5 := SV.below iv4 hb5'
  have hw5 := Below.then hw4 hb5'
  have hws := hw4.size
  have hwz4 : w.heap.size < w4.heap.size := t4.lt
  clear x0 x1 x2 x3 cc hsl5 bv5 t4 x4 iv4 hw4 hb5 hb5' hcd hq1 hq2
  obtain ⟨x0, x1, x2, x3⟩ := x5.sx
  obtain ⟨d0, d1, d2, d3, d4⟩ := t5.tb
  have f0 := t5.free 0
  have f1 := t5.free 1
  have f2 := t5.free 2
  have f3 := t5.free 3
  have f4 := t5.free 4
  have hwlt : w.heap.size < w5.heap.size := t5.lt
  have t6 := Bk.put5 t5 (.slice A N C) (.int .i64 k) (.int .i64 m) (.int .i64 g) (.slice R5 m5 c5)
  go_wp2_with fail
  refine bodyPost_ret (res_tb2 rfl _ _ rfl t6) rfl ⟨?_, (((((hw5.setCell (by simp) _).setCell (by simp) _).setCell (by simp) _).setCell (by simp) _).setCell (by simp) _)⟩
  have hset : ∀ b, b ≠ w.heap.size → (((((w5.setCell ⟨w.heap.size, 0, none⟩ (.slice A N C)).setCell ⟨w.heap.size, 1, none⟩ (.int .i64 k)).setCell ⟨w.heap.size, 2, none⟩ (.int .i64 m)).setCell ⟨w.heap.size, 3, none⟩ (.int .i64 g)).setCell ⟨w.heap.size, 4, none⟩ (.slice R5 m5 c5)).heap[b]? = w5.heap[b]? := fun b hb => (Below.heap_setCell _ _ _ _ hb).trans ((Below.heap_setCell _ _ _ _ hb).trans ((Below.heap_setCell _ _ _ _ hb).trans ((Below.heap_setCell _ _ _ _ hb).trans (Below.heap_setCell _ _ _ _ hb))))
  have hoff := iv_off iv5 HT.out hN64.1 t5
  have hw4s : w.heap.size < w4.drew.heap.size := hwz4
  rcases HOK.out with ⟨rfl, h1, h2, l, h3, h4, h5⟩ | ⟨rfl, h1⟩
  · exact .inl ⟨A, N, C, ts, k, m, g, R5, m5, c5, l, rfl, HK, hNC, SV.other iv5 (fun x hx _ => hset _ (hoff x hx)), h1, h2,
      (SlR.frame h3 (fun b hb _ => hset b (by omega))).wider (fun b hb => by omega), Lib.hid h4, Lib.hid (isp_gs HK.out hzl.out hU2.out HACC.out h5)⟩
  · exact .inr ⟨A, N, C, k, m, g, R5, m5, c5, rfl, Lib.hid (nop_gs HK.out hzl.out hU2.out HACC.out h1)⟩
end Go.Proofs.YtbfihajgjbpmaaaGreat
/- Stage 11: put: a table as the bytes of a part. -/
namespace Go.Proofs.YtbfihajgjbpmaaaGreat
open Go.ChangeShapes Go.WideShapes Go.ChangeAt Go.RowKit
set_option linter.unusedVariables false
set_option maxRecDepth 4000

theorem Gr.side {w0 w w' : World} {v0 v : Value} (h : Gr w0 w v0 v) (hb : Below w0.heap.size w w') : Gr w0 w' v0 v :=
  ⟨⟨hb.os.trans h.kp.os, hb.tape.trans h.kp.tape, hb.output.trans h.kp.output, Nat.le_trans h.kp.size hb.size, fun b hl hn => (hb.block b hl).trans (h.kp.block b hl hn)⟩, h.own⟩
/-- values of the call's own do not lie among bytes -/
theorem OS.ne8 {w : World} {base : Nat} {v : Value} {n : Nat} {ps : List (Int × ByteArray)} {g b : Nat} (h : OS 2 w base v n (vcells ps)) (hn : n = 0 → v = .slice none 0 0) (hu : U8K w g) (hb : v.ownBlock = some b) : b ≠ g := by
  by_cases h0 : n = 0
  · rw [hn h0] at hb; cases hb
  · obtain ⟨h1, h2, h3⟩ := h
    rcases h3 with ⟨rfl, _⟩ | ⟨b', cap, cur, T, rfl, hg, hh, hl, hm, hsz, htk⟩
    · cases hb
    · cases hb
      rintro rfl
      have hpos : 0 < (vcells ps).length := by rw [h1]; omega
      have hx : (vcells ps)[0] ∈ cur.toList := by
        have hin : (vcells ps)[0] ∈ cur.toList.take (n * 2) := by rw [htk]; exact List.getElem_mem _
        exact List.mem_of_mem_take hin
      obtain ⟨z, hz⟩ := hu _ _ _ hh _ hx
      exact vcells_no ps _ (List.getElem_mem hpos) z hz
theorem slB_ints : Sl 22 1 := ⟨by kernel_rfl, fun w => by kernel_rfl⟩
/-- the bytes of the head and of the first granules -/
def frB (ts : List Int) (K : Nat) (m : Int) (G : Nat) (l : List RowV) (x : Nat) : List Int := frsL (frontD ts K m G ((splitL G l).take x))
theorem frB_zero (ts : List Int) (K : Nat) (m : Int) (G : Nat) (l : List RowV) : frB ts K m G l 0 = frameL (putS ts (K : Int) m (G : Int)) := by
  unfold frB frontD
  rw [List.take_zero, List.flatMap_nil, frsL, frsL, List.append_nil]
theorem frB_next {ts : List Int} {K : Nat} {m : Int} {G : Nat} {l : List RowV} {x : Nat} (h : x < cntG G l.length) : frB ts K m G l (x + 1) = frB ts K m G l x ++ frsL (granD ts (granL G l x)) := by
  unfold frB
  rw [splitL_take h, front_snoc, frsL_app]
theorem plV_next {ts : List Int} {K : Nat} {m : Int} {G : Nat} {l : List RowV} {x : Nat} (h : x < cntG G l.length) : (placesV ts K m G l).take (x + 1) = (placesV ts K m G l).take x ++ [(((frB ts K m G l x).length : Int), ⟨#[]⟩)] := by
  rw [List.take_succ_eq_append_getElem (by unfold placesV; rw [List.length_map, List.length_range]; exact h)]
  simp [placesV, frB]
theorem marksD_take {ts : List Int} {K : Nat} (ms : List RowV) (h : K ≤ ts.length) : marksD ts K ms = granD (ts.take K) ms := by
  unfold marksD granD
  rw [List.length_take, Nat.min_eq_left h]
  refine List.map_congr_left (fun k hk => ?_)
  have : (ts.take K).getD k 0 = ts.getD k 0 := by rw [List.getD_eq_getElem?_getD, List.getElem?_take_of_lt (List.mem_range.1 hk), ← List.getD_eq_getElem?_getD]
  rw [this]
theorem partL_is {ts : List Int} {K : Nat} {m : Int} {G : Nat} {l : List RowV} (h : K ≤ ts.length) :
    ((frB ts K m G l (cntG G l.length) ++ frsL (granD (ts.take K) (marksL G K l))) ++ blockL 2 (placesV ts K m G l)) ++ w8 ((frB ts K m G l (cntG G l.length)).length : Int) = partL ts K m G l := by
  have e1 : frB ts K m G l (cntG G l.length) = frsL (frontD ts K m G (splitL G l)) := by
    unfold frB
    rw [List.take_of_length_le (by rw [splitL_len]; exact Nat.le_refl _)]
  have e2 : frsL [dataL 2 (placesV ts K m G l)] = blockL 2 (placesV ts K m G l) := by rw [frsL, frsL, List.append_nil]; rfl
  unfold partL
  rw [part_split, frsL_app, frsL_app, e1, e2, marksD_take _ h, List.append_assoc (frsL (frontD ts K m G (splitL G l)))]
  rfl
set_option maxHeartbeats 4000000 in
theorem pput_any (A : Option Addr) (N C : Nat) (ts : List Int) (K : Nat) (m : Int) (G : Nat) (R : Option Addr) (n c : Nat) (l : List RowV) (w : World) (hv : IV w A N ts) (hNC : N ≤ C) (hr : RVs w R n l) (hp : PartOk ts K m G l) :
    Calls Tryz.prog 29 #[TbV A N C (K : Int) m (G : Int) R n c] w fun e w' => ∃ v, e = .returned v ∧ OU w' w.heap.size v (partL ts K m G l) ∧ Below w.heap.size w w' := by
  have hl := Lib.hid (IV.len hv)
  have hll := Lib.hid hr.1
  have HP := Lib.hid hp
  obtain ⟨⟨hN1, hN2⟩, ⟨hK1, hK2⟩, ⟨hG1, hG2⟩, hty⟩ := hp.nums
  rw [hl.out] at hN1 hN2 hK2
  have hn1 := hp.some
  have hn2 := hp.most
  rw [hll.out] at hn1 hn2
  have HT := Lib.hid hty
  have hsm := (schema_small hp.check).2
  clear hty hp
  have t0 := Bk.new w (TbA A N C (K : Int) m (G : Int) R n c) 66
  have hb0 := Joins.below_alloc1 w (.cells (TbA A N C (K : Int) m (G : Int) R n c) 66)
  obtain ⟨c0, c1, c2, c3, c4⟩ := t0.tb
  obtain ⟨sl, hsl⟩ : ∃ sl, (putS ts (K : Int) m (G : Int)).length = sl := ⟨_, rfl⟩
  rw [hsl] at hsm
  go_enter Tryz.func29, Tryz.ntmps29
  go_wp2_with fail
  clear c0 c1 c2 c3 c4
  refine (put_any A N C ts K m G _ (hv.below hb0) HP.out.check).mono ?_
  rintro e w1 ⟨v1, rfl, o1, hb1⟩
  obtain ⟨a1, d1, rfl, -, -, bv1, -⟩ := o1.bvn (put_bytes HP.out.check) sl hsl
  have t1 := t0.below hb1
  have hw1 := Below.then hb0 hb1
  clear t0 hb0 hb1 o1 hsl
  go_wp2_with fail
  refine (frameu_any a1 sl d1 _ w1 bv1 (by omega)).mono ?_
  rintro e w2 ⟨o2, rfl, ou2, hb2⟩
  have t2 := t1.below hb2
  have hw2 := Below.then hw1 hb2
  have ou2 := ou2.mono hw1.size
  rw [← frB_zero ts K m G l] at ou2
  clear t1 hw1 hb2 bv1
  obtain ⟨c0, c1, c2, c3, c4⟩ := t2.tb
  go_wp2_with fail
  clear c0 c1 c2 c3 c4
  refine (gsplit_any A N C K m G R n c l w2 (hr.below hw2) (by omega) hG1 (by omega)).mono ?_
  rintro e w3 ⟨A3, C3, rfl, h31, h32, gr3, hb3⟩
  have t3 := t2.below hb3
  have hw3 := Below.then hw2 hb3
  have ou3 := ou2.below hb3
  have hv3 := hv.below hw3
  have hr3 := hr.below hw3
  have hqn := cntG_le (G := G) (j := n) hG1
  obtain ⟨q, hq⟩ : ∃ q, cntG G n = q := ⟨_, rfl⟩
  rw [hq] at gr3 hqn h31 ⊢
  have HQ := Lib.hid hq
  have hlo : ∀ b, o2.ownBlock = some b → w.heap.size ≤ b := fun b hb => (ou3.ow.ownU hb).1
  clear hq t2 hw2 hb3 ou2 hv hr
  have hby : Hid (∀ x, Byt (frB ts K m G l x)) := Lib.hid (fun x => frs_byt _ (fun d hd => (HP.out.front (gs := (splitL G l).take x) (fun g hg => List.mem_of_mem_take hg) d hd).1))
  have hfl : Hid (∀ x, (frB ts K m G l x).length ≤ 128001 * 500015) := Lib.hid (fun x => HP.out.front_len (fun g hg => List.mem_of_mem_take hg) (by rw [List.length_take, splitL_len, hll.out, HQ.out]; omega))
  go_wp2_with fail
  go_loopw [3, 4, 6, 18] (fun o bg v6 i wr => ∃ (x : Nat), x ≤ q ∧ i = .int .i64 (x : Int) ∧ OU wr 0 o (frB ts K m G l x) ∧ OS 2 wr w3.heap.size bg x (vcells ((placesV ts K m G l).take x)) ∧ Hid (x = 0 → bg = .slice none 0 0) ∧ Gr w3 wr o2 o) (fun _ _ _ i _ => q - (intOf i).toNat)
  case atStart => exact ⟨0, by omega, rfl, ou3.mono (Nat.zero_le _), OS.nil _ _, Lib.hid (fun _ => rfl), Gr.refl _ _⟩
  case round =>
    obtain ⟨x, hx, rfl, hox, hos, hz, hgr⟩ := hrel
    have hnb : ∃ y ∈ (TbA A N C (K : Int) m (G : Int) R n c).toList, ∀ z, y ≠ .int .u8 z := ⟨.slice A N C, by simp, fun z h => by cases h⟩
    have tr := t3.gr hnb ou3 hgr
    obtain ⟨L, hL⟩ : ∃ L, (frB ts K m G l x).length = L := ⟨_, rfl⟩
    have hLm := hfl.out x
    rw [hL] at hLm
    by_cases hlt : x < q
    · have hxi : (x : Int) < (q : Int) := by omega
      have hxq : x < cntG G l.length := by rw [hll.out, HQ.out]; exact hlt
      obtain ⟨b, off, u, rfl, hc3, hu3⟩ := gr3.at x hlt
      rw [splitL_at hxq] at hu3
      have hc := hgr.cell ou3 hc3 ((sliceRep_nu [] rowRep_nu).no hu3)
      obtain ⟨A2, L2, C2, rfl, g1, g2, g3, -⟩ := id hu3
      obtain ⟨ao, co, rfl, -, -, -, -⟩ := hox.ow.bvn (hby.out x) L hL
      have HPN := Lib.hid (plV_next (K := K) (m := m) hxq (ts := ts))
      have HFN := Lib.hid (frB_next (K := K) (m := m) hxq (ts := ts))
      have hgo := split_ok HP.out.rows HP.out.most (granL G l x) (List.mem_map.2 ⟨x, List.mem_range.2 hxq, rfl⟩)
      rw [hL] at HPN
      have HGO := Lib.hid hgo
      have hsep : Hid (∀ g, (Value.slice ao L co).ownBlock = some g → u4.ownBlock ≠ some g) := Lib.hid (fun g hg e => OS.ne8 hos hz.out (hox.u8 g hg) e rfl)
      obtain ⟨c0, c1, c2, c3, c4⟩ := tr.tb
      have hgsz := hgr.kp.size
      have hL' := hL
      clear hgo hxq hL hz
      go_wp2_with (at_builtin; refine append_os2 el_vals rfl (.tmp 22) (.tmp 26) rfl w3.heap.size u4 x _ rfl (hos.alloc _) _ 1 1 [.int .i64 (L : Int), .string ⟨#[]⟩] rfl (SV.lit' (k := 2) _ [.int .i64 (L : Int), .string ⟨#[]⟩] 1 62 rfl (twoA_one _ _) _ rfl) (by omega) (by omega) (by rw [heap_alloc]; omega) ?_; intro v4 w4 ho4 hb4 hk4 hst4; have hg4 := hgr.side (((Joins.below_alloc1 wr (.cells #[.int .i64 (L : Int), .string ⟨#[]⟩] 62)).mono hgsz).trans hb4); have t4 := t3.gr hnb ou3 hg4; obtain ⟨e0, e1, e2, e3, e4⟩ := t4.tb)
      have ho4 : OS 2 w4 w3.heap.size v4 (x + 1) (vcells ((placesV ts K m G l).take (x + 1))) := by rw [HPN.out, vcells_app]; exact ho4
      have ou4 : OU w4 0 (.slice ao L co) (frB ts K m G l x) := (hox.alloc (.cells #[.int .i64 (L : Int), .string ⟨#[]⟩] 62)).same (fun g hg hlt => hst4 g hlt (hsep.out g hg))
      have rw4 := NU.gr (sliceRep_nu [] rowRep_nu) hu3 ou3 hg4
      obtain ⟨_, _, _, hA, -, -, -, rs4⟩ := rw4
      cases hA
      have rs4 := rs4.rvs
      have hgl := rs4.1
      clear c0 c1 c2 c3 c4 e0 e1 e2 e3 e4 hb4 hk4 hst4 hos hox hc t4 tr HPN hu3 hc3
      refine (pputcs_any (.slice ao L co) _ A N C ts A2 L2 C2 (granL G l x) w4 ou4 (by unfold manyN; rw [hL']; omega) (IV.gr hv3 ou3 hg4) HT.out hN2 rs4 (by rw [← hgl]; exact HGO.out.2) HGO.out.1).mono ?_
      rw [← HFN.out]
      rintro e w5 ⟨o5, rfl, ou5, hg5⟩
      have hg5' := hg4.trans hg5
      have ho5 := ho4.same (w' := w5) (fun g hg hlt => hg5.kp.block g hlt (fun e => OS.ne8 ho4 (fun h => by omega) (ou4.u8 g e) hg rfl))
      clear ou4 ho4 rs4 hg5 hg4
      go_wp2_with fail
      go_roundw
      case rel => exact ⟨x + 1, by omega, by go_num, ou5, ho5, Lib.hid (fun h => by omega), hg5'⟩
      case measure => simp [intOf]; omega
    · have hxi : ¬ (x : Int) < (q : Int) := by omega
      obtain rfl : x = q := by omega
      obtain ⟨ao, co, rfl, -, -, -, -⟩ := hox.ow.bvn (hby.out x) L hL
      have HLQ : Hid ((frB ts K m G l (cntG G l.length)).length = L) := by show _ = _; rw [hll.out, HQ.out]; exact hL
      obtain ⟨c0, c1, c2, c3, c4⟩ := tr.tb
      have hvr := IV.gr hv3 ou3 hgr
      have hrr := RVs.gr hr3 ou3 hgr
      obtain ⟨a40, hslc, iv40⟩ := SV.slice_hi slB_ints hvr K C hK2 hNC
      rw [show (icells ts).take (K * 1) = icells (ts.take K) by simp [icells, List.map_take]] at iv40
      clear hL
      go_wp2_with fail
      refine wp_region_noPanic ?_
      refine region_g 13 (Ext (World.drew _)) (by kernel_rfl) (Ext.refl _) (fun hS => ?_)
      refine take_w (i := 0) (v := ?_) (some 37) rfl (by kernel_rfl) rfl (fun _ _ _ h => h) (Or.inl ⟨by rfl, ?_⟩) hS ?_
      rotate_left
      · (intro wq hq; go_simp); first | done | with_reducible rfl
      try simp only [Act.put, List.setIfInBounds_toArray, List.set_cons_zero, List.set_cons_succ]
      replace hS := Till.list 0 hS
      refine take_w (i := 1) (v := ?_) (some 38) rfl (by kernel_rfl) rfl (fun _ _ _ h => h) (Or.inl ⟨by rfl, ?_⟩) hS ?_
      rotate_left
      · (intro wq hq; go_simp); first | done | with_reducible rfl
      try simp only [Act.put, List.setIfInBounds_toArray, List.set_cons_zero, List.set_cons_succ]
      replace hS := Till.list 1 hS
      refine take_w (i := 4) (v := ?_) (some 41) rfl (by kernel_rfl) rfl (fun _ _ _ h => h) (Or.inl ⟨by rfl, ?_⟩) hS ?_
      rotate_left
      · (intro wq hq; go_simp); first | done | with_reducible rfl
      try simp only [Act.put, List.setIfInBounds_toArray, List.set_cons_zero, List.set_cons_succ]
      replace hS := Till.list 4 hS
      refine take_w (i := 8) (v := ?_) (some 45) rfl (by kernel_rfl) rfl (fun _ _ _ h => h) (Or.inl ⟨by rfl, ?_⟩) hS ?_
      rotate_left
      · (intro wq hq; go_simp); first | done | with_reducible rfl
      try simp only [Act.put, List.setIfInBounds_toArray, List.set_cons_zero, List.set_cons_succ]
      replace hS := Till.list 8 hS
      refine take_w (i := 10) (v := ?_) (some 47) rfl (by kernel_rfl) rfl (fun _ _ _ h => h) (Or.inl ⟨by rfl, ?_⟩) hS ?_
      rotate_left
      · (intro wq hq; go_simp); first | done | with_reducible rfl
      try simp only [Act.put, List.setIfInBounds_toArray, List.set_cons_zero, List.set_cons_succ]
      replace hS := Till.list 10 hS
      refine take_w (i := 2) (v := ?_) (some 39) rfl (by kernel_rfl) rfl (fun _ _ _ h => h) (Or.inl ⟨by rfl, ?_⟩) hS ?_
      rotate_left
      · (intro wq hq; go_simp); first | done | with_reducible rfl
      try simp only [Act.put, List.setIfInBounds_toArray, List.set_cons_zero, List.set_cons_succ]
      replace hS := Till.list 2 hS
      refine take_w (i := 5) (v := ?_) (some 42) rfl (by kernel_rfl) rfl (fun _ _ _ h => h) (Or.inl ⟨by rfl, ?_⟩) hS ?_
      rotate_left
      · (intro wq hq; go_simp); first | done | with_reducible rfl
      try simp only [Act.put, List.setIfInBounds_toArray, List.set_cons_zero, List.set_cons_succ]
      replace hS := Till.list 5 hS
      refine take_g (i := 9) (v := ?_) [12, 9] (some 46) rfl (by kernel_rfl) rfl (fun _ _ _ h => h) (Or.inl ⟨by rfl, ?_⟩) hS ?_
      rotate_left
      · (intro wq hq; have q0 := hq _ _ _ c0; have q1 := hq _ _ _ c1; have q2 := hq _ _ _ c2; have q3 := hq _ _ _ c3; have q4 := hq _ _ _ c4; go_simp); first | done | with_reducible rfl
      try simp only [Act.put, List.setIfInBounds_toArray, List.set_cons_zero, List.set_cons_succ]
      replace hS := Till.list 9 hS
      refine take_g (i := 11) (v := ?_) [12, 11] (some 48) rfl (by kernel_rfl) rfl (fun _ _ _ h => h) (Or.inl ⟨by rfl, ?_⟩) hS ?_
      rotate_left
      · (intro wq hq; have q0 := hq _ _ _ c0; have q1 := hq _ _ _ c1; have q2 := hq _ _ _ c2; have q3 := hq _ _ _ c3; have q4 := hq _ _ _ c4; go_simp); first | done | with_reducible rfl
      try simp only [Act.put, List.setIfInBounds_toArray, List.set_cons_zero, List.set_cons_succ]
      replace hS := Till.list 11 hS
      refine take_g (i := 3) (v := ?_) [7, 3] (some 40) rfl (by kernel_rfl) rfl (fun _ _ _ h => h) (Or.inl ⟨by rfl, ?_⟩) hS ?_
      rotate_left
      · (intro wq hq; have q0 := hq _ _ _ c0; have q1 := hq _ _ _ c1; have q2 := hq _ _ _ c2; have q3 := hq _ _ _ c3; have q4 := hq _ _ _ c4; go_simp); first | done | with_reducible rfl
      try simp only [Act.put, List.setIfInBounds_toArray, List.set_cons_zero, List.set_cons_succ]
      replace hS := Till.list 3 hS
      refine take_g (i := 6) (v := ?_) [7, 6] (some 43) rfl (by kernel_rfl) rfl (fun _ _ _ h => h) (Or.inl ⟨by rfl, ?_⟩) hS ?_
      rotate_left
      · (intro wq hq; have q0 := hq _ _ _ c0; have q1 := hq _ _ _ c1; have q2 := hq _ _ _ c2; have q3 := hq _ _ _ c3; have q4 := hq _ _ _ c4; go_simp); first | done | with_reducible rfl
      try simp only [Act.put, List.setIfInBounds_toArray, List.set_cons_zero, List.set_cons_succ]
      replace hS := Till.list 6 hS
      refine take_g (i := 7) (v := .slice a40 K C) [7] (some 44) rfl (by kernel_rfl) rfl (fun _ _ _ h => h) (Or.inl ⟨by rfl, ?_⟩) hS ?_
      · (intro wq hq; (have := hslc; go_simp))
      try simp only [Act.put, List.setIfInBounds_toArray, List.set_cons_zero, List.set_cons_succ]
      replace hS := Till.list 7 hS
      refine ready_g (rs := [12]) (by kernel_rfl) (by simp) ?_
      refine AllReadyG.cons rfl (fun Kont hK => ?_) AllReadyG.nil
      go_simp
      refine (gmarks_any A N C K m G R n c l wr.drew (hrr.below (Below.refl _ _).drew) (by omega) hG1 (by omega) (fun v hvm => by have := HP.out.rows.len v hvm; have := hl.out; omega)).mono ?_
      rintro e w9 ⟨A9, C9, rfl, h91, h92, rm9, hb9⟩
      rw [HQ.out] at h91 rm9 ⊢
      refine hK.out _ _ (Or.inr ((hS.get (by kernel_rfl)).trans (Ext.below hb9))) (fun hS0 => ?_)
      clear hK Kont
      try simp only [Act.put, List.setIfInBounds_toArray, List.set_cons_zero, List.set_cons_succ]
      clear hS
      have hS := hS0
      clear hS0
      have ou9 := OU.below (w := wr.drew) ⟨hox.ow, hox.u8⟩ hb9
      have hg9 : Gr w3 w9 o2 (.slice ao L co) := hgr.new (Below.then (Below.refl wr.heap.size wr).drew hb9)
      have hos9 := OS.below (w := wr.drew) hos hb9
      have iv9 := SV.below (w := wr.drew) iv40 hb9
      have HMO := Lib.hid (marks_ok HP.out.rows (by rw [hl.out]; exact hK2) hG1)
      have HTK : Hid (Ty (ts.take K)) := Lib.hid (fun y hy => HT.out y (List.mem_of_mem_take hy))
      clear c0 c1 c2 c3 c4 hvr hrr hb9 hgr hox hos iv40
      refine ready_g (rs := [13]) (by kernel_rfl) (by simp) ?_
      refine AllReadyG.cons rfl (fun Kont hK => ?_) AllReadyG.nil
      go_simp
      refine (pputcs_any (.slice ao L co) _ a40 K C (ts.take K) A9 x C9 (marksL G K l) w9 ou9 (by unfold manyN; have := hfl.out x; omega) iv9 HTK.out (by omega) rm9 (by omega) HMO.out).mono ?_
      rintro e w10 ⟨o10, rfl, ou10, hg10⟩
      refine hK.out _ _ (Or.inl (by kernel_rfl)) (fun hS0 => ?_)
      clear hK Kont
      try simp only [Act.put, List.setIfInBounds_toArray, List.set_cons_zero, List.set_cons_succ]
      clear hS
      have hS := hS0
      clear hS0
      refine take_w (i := 14) (v := ?_) (some 3) rfl (by kernel_rfl) rfl (fun _ _ _ h => h) (Or.inl ⟨by rfl, ?_⟩) hS ?_
      rotate_left
      · (intro wq hq; go_simp); first | done | with_reducible rfl
      try simp only [Act.put, List.setIfInBounds_toArray, List.set_cons_zero, List.set_cons_succ]
      replace hS := Till.list 14 hS
      refine done_g (by kernel_rfl) (NoPanic.normal ?_) _
      clear hS
      have hos10 := hos9.same (w' := w10) (fun g hg hlt => hg10.kp.block g hlt (fun e => OS.ne8 hos9 hz.out (ou9.u8 g e) hg rfl))
      have hg10' := hg9.trans hg10
      clear ou9 hg9 hg10 hos9 iv9 rm9
      obtain ⟨ab, cb, rfl, -, -, svb, -⟩ := hos10.sv
      rw [List.take_of_length_le (by unfold placesV; rw [List.length_map, List.length_range, hll.out, HQ.out]; exact Nat.le_refl _)] at svb
      have hpl := HP.out.places
      have hlen10 : (frB ts K m G l x ++ frsL (granD (ts.take K) (marksL G K l))).length ≤ 64002420015 + 10000000 := by
        rw [List.length_append]
        have h1 := hfl.out x
        have h2 := gran_most HMO.out HTK.out (by rw [marksL_len, hll.out, HQ.out]; omega)
        rw [List.length_take, marksL_len, hll.out, HQ.out] at h2
        have h3 : min K ts.length * (61 * x + 11) ≤ 64 * 122011 := Nat.mul_le_mul (by omega) (by omega)
        omega
      have HPL := Lib.hid hpl
      have HPF := Lib.hid (block_few hpl.1)
      clear hpl hos10
      obtain ⟨pre, hpre⟩ : ∃ pre, frB ts K m G l x ++ frsL (granD (ts.take K) (marksL G K l)) = pre := ⟨_, rfl⟩
      rw [hpre] at ou10 hlen10
      have HPRE := Lib.hid hpre
      clear hpre
      go_wp2_with fail
      refine (pputc_any o10 pre 2 ab x cb _ w10 ou10 (by unfold manyN; omega) svb HPL.out.1 HPL.out.2).mono ?_
      rintro e w11 ⟨o11, rfl, ou11, hg11⟩
      have hg11' := hg10'.trans hg11
      have hLu : IntKind.u64.wrap (L : Int) = (L : Int) := by rw [IntKind.wrap_u64]; omega
      have hlen11 : (pre ++ blockL 2 (placesV ts K m G l)).length ≤ 64002420015 + 10122011 := by rw [List.length_append]; have := HPF.out; omega
      have HLQ2 : Hid ((pre ++ blockL 2 (placesV ts K m G l)) ++ w8 (L : Int) = partL ts K m G l) := by
        show _ = _
        rw [← HPRE.out, ← HLQ.out, ← partL_is (by rw [hl.out]; exact hK2), hll.out, HQ.out]
      clear ou10 hg10' hg11 svb hlen10 HPRE
      obtain ⟨pr2, hpr2⟩ : ∃ pr2, pre ++ blockL 2 (placesV ts K m G l) = pr2 := ⟨_, rfl⟩
      rw [hpr2] at ou11 hlen11 HLQ2
      clear hpr2
      have pc64 := put64_any (L : Int) w11 (by omega) (by omega)
      have ou12 := ou11.alloc (p64Obj (L : Int))
      have hg12 := hg11'.new (Joins.below_alloc1 w11 (p64Obj (L : Int)))
      have bv12 := BV.w8 (L : Int) w11
      clear ou11 hg11'
      go_wp2_with fail
      refine pc64.mono ?_
      rintro e w12 ⟨rfl, hw12⟩
      subst hw12
      go_wp2_with (at_builtin; refine append_ou rfl (.tmp 54) (.tmp 57) rfl 0 o11 pr2 rfl ou12 _ 8 8 (w8 (L : Int)) rfl bv12 (by omega) (Nat.zero_le _) ?_; intro v13 w13 ou13 hb13 hk13 hs13)
      have hg13 := hg12.trans (Gr.of hb13 hk13 hs13)
      rw [HLQ2.out] at ou13
      go_ret
      exact ⟨_, rfl, hg13.rise hlo hw3.size ou13, hw3.trans (hg13.below hlo hw3.size)⟩
end Go.Proofs.YtbfihajgjbpmaaaGreat
/- Stage 11: Open: a part in memory. -/
namespace Go.Proofs.YtbfihajgjbpmaaaGreat
open Go.ChangeShapes Go.WideShapes Go.ChangeAt Go.RowKit
set_option linter.unusedVariables false
set_option maxRecDepth 4000

/-- what Write tells of some schema and rows -/
structure Prt (zs ts : List Int) (K : Nat) (m : Int) (G : Nat) (l : List RowV) : Prop where
  ok : chE ts (K : Int) m (G : Int) l = 0
  rg : ∀ r ∈ l, RgV r
  is : partL ts K m G l = zs
def NoPrt (zs : List Int) : Prop := ∀ ts K m G l, ¬ Prt zs ts K m G l
theorem Prt.part {zs ts : List Int} {K : Nat} {m : Int} {G : Nat} {l : List RowV} (h : Prt zs ts K m G l) : PartOk ts K m G l ∧ ∀ r ∈ l, FR ts r := by
  obtain ⟨h1, -, -, h2⟩ := chE_part h.ok h.rg
  rw [Int.toNat_natCast, Int.toNat_natCast] at h1
  exact ⟨h1, h2⟩
theorem Prt.one {zs ts : List Int} {K : Nat} {m : Int} {G : Nat} {l : List RowV} {ts' : List Int} {K' : Nat} {m' : Int} {G' : Nat} {l' : List RowV} (h : Prt zs ts K m G l) (h' : Prt zs ts' K' m' G' l') : ts = ts' ∧ K = K' ∧ m = m' ∧ G = G' ∧ l = l' :=
  part_inj h.part.1 h'.part.1 (h.is.trans h'.is.symm)
theorem NoP.prt {zs : List Int} (h : NoP zs) : NoPrt zs := fun ts K m G l hp => h ts K m G l hp.part.1 hp.is
theorem IsP.prt {zs ts : List Int} {K : Nat} {m : Int} {G : Nat} {l : List RowV} (h : IsP zs ts (K : Int) m (G : Int) l) (hn : ¬ Prt zs ts K m G l) : NoPrt zs := fun ts' K' m' G' l' hp => by
  obtain ⟨rfl, e1, rfl, e3, rfl⟩ := h _ _ _ _ _ hp.part.1 hp.is
  obtain rfl : K' = K := by omega
  obtain rfl : G' = G := by omega
  exact hn hp
/-- a part's cells -/
abbrev PtA (A : Option Addr) (N C : Nat) (k m g : Int) (R : Option Addr) (n c : Nat) (A' : Option Addr) (q C' : Nat) : Array Value := #[.slice A N C, .int .i64 k, .int .i64 m, .int .i64 g, .slice R n c, .slice A' q C']
theorem Bk.pt {w : World} {b : Nat} {A : Option Addr} {N C : Nat} {k m g : Int} {R : Option Addr} {n c : Nat} {A' : Option Addr} {q C' : Nat} {T : TypeId} (h : Bk w b (PtA A N C k m g R n c A' q C') T) :
    w.cell? ⟨b, 0, none⟩ = some (.slice A N C) ∧ w.cell? ⟨b, 1, none⟩ = some (.int .i64 k) ∧ w.cell? ⟨b, 2, none⟩ = some (.int .i64 m) ∧ w.cell? ⟨b, 3, none⟩ = some (.int .i64 g) ∧ w.cell? ⟨b, 4, none⟩ = some (.slice R n c) ∧ w.cell? ⟨b, 5, none⟩ = some (.slice A' q C') :=
  ⟨h.cell 0 rfl, h.cell 1 rfl, h.cell 2 rfl, h.cell 3 rfl, h.cell 4 rfl, h.cell 5 rfl⟩
/-- a part in memory: block p -/
def PtM (w : World) (p : Nat) (ts : List Int) (K : Nat) (m : Int) (G : Nat) (l : List RowV) : Prop :=
  ∃ (A : Option Addr) (N C : Nat) (R : Option Addr) (n c : Nat) (A' : Option Addr) (q C' : Nat), Bk w p (PtA A N C (K : Int) m (G : Int) R n c A' q C') 84 ∧ IV w A N ts ∧ N ≤ C ∧ RVs w R n l ∧ n ≤ c ∧ SlR granRep [] w A' q (splitL G l) (fun _ => True) ∧ q ≤ C'
theorem PtM.below {w w' : World} {p : Nat} {ts : List Int} {K : Nat} {m : Int} {G : Nat} {l : List RowV} (h : PtM w p ts K m G l) (hb : Below w.heap.size w w') : PtM w' p ts K m G l := by
  obtain ⟨A, N, C, R, n, c, A', q, C', h1, h2, h3, h4, h5, h6, h7⟩ := h
  exact ⟨A, N, C, R, n, c, A', q, C', h1.below hb, SV.below h2 hb, h3, h4.below hb, h5, h6.below hb, h7⟩
/-- what Open tells -/
def OpenE (w w' : World) (zs : List Int) (e : Ending) : Prop :=
  ((∃ (p : Nat) (ts : List Int) (K : Nat) (m : Int) (G : Nat) (l : List RowV), e = .returned (.tuple #[.pointer (some ⟨p, 0, none⟩), .int .i64 0]) ∧ PtM w' p ts K m G l ∧ w.heap.size ≤ p ∧ Hid (Prt zs ts K m G l)) ∨
    (e = .returned (.tuple #[.pointer none, .int .i64 43]) ∧ Hid (NoPrt zs))) ∧ Below w.heap.size w w'
theorem ReadP.get {w w' : World} {zs : List Int} {e : Ending} (h : ReadP w w' zs e) : ∃ (A : Option Addr) (N C : Nat) (k m g : Int) (R : Option Addr) (n c : Nat) (ok : Bool), e = .returned (.tuple #[TbV A N C k m g R n c, .bool ok]) ∧
    Hid ((ok = true ∧ ∃ ts l, checkB ts k m g = true ∧ N ≤ C ∧ IV w' A N ts ∧ n ≤ 2000 ∧ n ≤ c ∧ RVs w' R n l ∧ RowsOk ts l ∧ IsP zs ts k m g l) ∨ (ok = false ∧ NoP zs)) ∧ Below w.heap.size w w' := by
  obtain ⟨⟨A, N, C, ts, k, m, g, R, n, c, l, h1, h2, h3, h4, h5, h6, h7, h8, h9⟩ | ⟨A, N, C, k, m, g, R, n, c, h1, h2⟩, hb⟩ := h
  · exact ⟨A, N, C, k, m, g, R, n, c, true, h1, Lib.hid (.inl ⟨rfl, ts, l, h2.out, h3, h4, h5, h6, h7.rvs, h8.out, h9.out⟩), hb⟩
  · exact ⟨A, N, C, k, m, g, R, n, c, false, h1, Lib.hid (.inr ⟨rfl, h2.out⟩), hb⟩
set_option maxHeartbeats 4000000 in
theorem popen_any (a : Option Addr) (n c : Nat) (zs : List Int) (w : World) (hb : BV w a n zs) (hc : n ≤ c) (hn : n ≤ 1000000) :
    Calls Tryz.prog 13 #[.slice a n c] w fun e w' => OpenE w w' zs e := by
  go_enter Tryz.func13, Tryz.ntmps13
  go_wp2_with fail
  refine (pread_any a n c zs _ hb hc hn).mono ?_
  rintro e w1 he
  obtain ⟨A, N, C, k, m, g, R, n1, c1, ok, rfl, HOK, hb1⟩ := he.get
  clear he
  have t2 := Bk.new w1 (TbA A N C k m g R n1 c1) 66
  have hb2 := hb1.alloc hb1.size (.cells (TbA A N C k m g R n1 c1) 66)
  cases ok
  · have HN : Hid (NoPrt zs) := Lib.hid (by
      rcases HOK.out with ⟨h, _⟩ | ⟨_, h⟩
      · cases h
      · exact h.prt)
    clear HOK
    go_wp2_with fail
    go_ret2
    exact ⟨.inr ⟨rfl, HN⟩, hb2⟩
  obtain ⟨ts, l, hk, hNC, iv, hn2, hnc, rv, hro, hip⟩ : ∃ ts l, checkB ts k m g = true ∧ N ≤ C ∧ IV w1 A N ts ∧ n1 ≤ 2000 ∧ n1 ≤ c1 ∧ RVs w1 R n1 l ∧ RowsOk ts l ∧ IsP zs ts k m g l := by
    rcases HOK.out with ⟨_, h⟩ | ⟨h, _⟩
    · exact h
    · cases h
  have hk9 := check_is hk
  rw [IV.len iv] at hk9
  obtain ⟨K, rfl⟩ : ∃ K : Nat, k = (K : Int) := ⟨k.toNat, by omega⟩
  obtain ⟨G, rfl⟩ : ∃ G : Nat, g = (G : Int) := ⟨g.toNat, by omega⟩
  have hnum : (1 ≤ N ∧ N ≤ 64) ∧ (1 ≤ G ∧ G ≤ 64) := by omega
  have HIP := Lib.hid hip
  have HRO := Lib.hid hro
  clear HOK hk hk9 hip hro
  have iv2 := iv.alloc (.cells (TbA A N C (K : Int) m (G : Int) R n1 c1) 66)
  have rv2 := rv.alloc (.cells (TbA A N C (K : Int) m (G : Int) R n1 c1) 66)
  obtain ⟨x0, x1, x2, x3, x4⟩ := t2.tb
  have hN1 : N ≤ maxLen := by unfold maxLen; omega
  have hn3 : n1 ≤ maxLen := by unfold maxLen; omega
  clear iv rv hb1
  go_wp2_with fail
  clear x0 x1 x2 x3 x4
  refine (pcheck_any A N C ts (K : Int) m (G : Int) R n1 c1 l _ iv2 hN1 rv2 hn3 HRO.out.rg).mono ?_
  rintro e w3 ⟨rfl, hb3⟩
  have t3 := t2.below hb3
  have iv3 := SV.below iv2 hb3
  have rv3 := rv2.below hb3
  have hw3 := Below.then hb2 hb3
  obtain ⟨ce, hce⟩ : ∃ ce, chE ts (K : Int) m (G : Int) l = ce := ⟨_, rfl⟩
  rw [hce]
  have HCE := Lib.hid hce
  clear t2 iv2 rv2 hb2 hb3 hce
  by_cases h0 : ce = 0
  rotate_left
  · have hne : ¬ ce = 0 := h0
    have HN : Hid (NoPrt zs) := Lib.hid (HIP.out.prt (fun hp => h0 (by rw [← HCE.out]; exact hp.ok)))
    clear h0
    go_wp2_with fail
    go_ret2
    exact ⟨.inr ⟨rfl, HN⟩, hw3⟩
  subst h0
  have hpo := (chE_part HCE.out HRO.out.rg).1
  rw [Int.toNat_natCast, Int.toNat_natCast] at hpo
  have HP := Lib.hid hpo
  obtain ⟨x0, x1, x2, x3, x4⟩ := t3.tb
  obtain ⟨pl, hpl⟩ : ∃ pl, (partL ts K m G l).length = pl := ⟨_, rfl⟩
  clear hpo
  go_wp2_with fail
  refine (pput_any A N C ts K m G R n1 c1 l _ iv3 hNC rv3 HP.out).mono ?_
  rintro e w4 ⟨v4, rfl, ou4, hb4⟩
  obtain ⟨a4, d4, rfl, -, -, bv4, -⟩ := ou4.ow.bvn HP.out.byt pl hpl
  have t4 := t3.below hb4
  have iv4 := SV.below iv3 hb4
  have rv4 := rv3.below hb4
  have hw4 := Below.then hw3 hb4
  have hbz := hb.below hw4
  clear t3 iv3 rv3 hw3 hb4 ou4 x0 x1 x2 x3 x4 hpl
  go_wp2_with fail
  refine (equal_any a4 a pl n d4 c _ zs _ bv4 hbz).mono ?_
  rintro e w5 ⟨rfl, hw5⟩
  subst hw5
  by_cases heq : partL ts K m G l = zs
  rotate_left
  · have HN : Hid (NoPrt zs) := Lib.hid (HIP.out.prt (fun hp => heq hp.is))
    rw [decide_eq_false heq]
    clear heq
    go_wp2_with fail
    go_ret2
    exact ⟨.inr ⟨rfl, HN⟩, hw4⟩
  rw [decide_eq_true heq]
  have HPR : Hid (Prt zs ts K m G l) := Lib.hid ⟨HCE.out, HRO.out.rg, heq⟩
  have cc := gsplit_any A N C (K : Int) m G R n1 c1 l w5.drew (rv4.below (Below.refl _ _).drew) (by omega) hnum.2.1 (by omega)
  obtain ⟨x0, x1, x2, x3, x4⟩ := t4.tb
  clear heq bv4 hbz
  go_wp2_with fail
  refine wp_region_noPanic ?_
  refine region_g 7 (Ext (World.drew _)) (by kernel_rfl) (Ext.refl _) (fun hS => ?_)
  refine take_g (i := 0) (v := ?_) [6, 0] (some 25) rfl (by kernel_rfl) rfl (fun _ _ _ h => h) (Or.inl ⟨by rfl, ?_⟩) hS ?_
  rotate_left
  · (intro wq hq; have q0 := hq _ _ _ x0; have q1 := hq _ _ _ x1; have q2 := hq _ _ _ x2; have q3 := hq _ _ _ x3; have q4 := hq _ _ _ x4; go_simp); first | done | with_reducible rfl
  try simp only [Act.put, List.setIfInBounds_toArray, List.set_cons_zero, List.set_cons_succ]
  replace hS := Till.list 0 hS
  refine take_w (i := 1) (v := ?_) (some 26) rfl (by kernel_rfl) rfl (fun _ _ _ h => h) (Or.inl ⟨by rfl, ?_⟩) hS ?_
  rotate_left
  · (intro wq hq; go_simp); first | done | with_reducible rfl
  try simp only [Act.put, List.setIfInBounds_toArray, List.set_cons_zero, List.set_cons_succ]
  replace hS := Till.list 1 hS
  refine take_w (i := 3) (v := ?_) (some 28) rfl (by kernel_rfl) rfl (fun _ _ _ h => h) (Or.inl ⟨by rfl, ?_⟩) hS ?_
  rotate_left
  · (intro wq hq; go_simp); first | done | with_reducible rfl
  try simp only [Act.put, List.setIfInBounds_toArray, List.set_cons_zero, List.set_cons_succ]
  replace hS := Till.list 3 hS
  refine take_g (i := 2) (v := ?_) [6, 5, 2] (some 27) rfl (by kernel_rfl) rfl (fun _ _ _ h => h) (Or.inl ⟨by rfl, ?_⟩) hS ?_
  rotate_left
  · (intro wq hq; have q0 := hq _ _ _ x0; have q1 := hq _ _ _ x1; have q2 := hq _ _ _ x2; have q3 := hq _ _ _ x3; have q4 := hq _ _ _ x4; go_simp); first | done | with_reducible rfl
  try simp only [Act.put, List.setIfInBounds_toArray, List.set_cons_zero, List.set_cons_succ]
  replace hS := Till.list 2 hS
  refine take_g (i := 4) (v := ?_) [6, 5, 4] (some 29) rfl (by kernel_rfl) rfl (fun _ _ _ h => h) (Or.inl ⟨by rfl, ?_⟩) hS ?_
  rotate_left
  · (intro wq hq; have q0 := hq _ _ _ x0; have q1 := hq _ _ _ x1; have q2 := hq _ _ _ x2; have q3 := hq _ _ _ x3; have q4 := hq _ _ _ x4; go_simp); first | done | with_reducible rfl
  try simp only [Act.put, List.setIfInBounds_toArray, List.set_cons_zero, List.set_cons_succ]
  replace hS := Till.list 4 hS
  refine ready_g (rs := [5]) (by kernel_rfl) (by simp) ?_
  refine AllReadyG.cons rfl (fun Kont hK => ?_) AllReadyG.nil
  go_simp
  refine cc.mono ?_
  rintro e w6 ⟨A6, C6, rfl, h61, h62, gr6, hb6⟩
  have hb6' := (Below.refl w5.heap.size w5).drew.trans hb6
  have iv6 := SV.below iv4 hb6'
  have rv6 := rv4.below hb6'
  have hw6 := Below.then hw4 hb6'
  refine hK.out _ _ (Or.inr ((hS.get (by kernel_rfl)).trans (Ext.below hb6))) (fun hS0 => ?_)
  clear hK Kont
  try simp only [Act.put, List.setIfInBounds_toArray, List.set_cons_zero, List.set_cons_succ]
  clear hS
  have hS := hS0
  clear hS0
  refine take_w (i := 6) (v := ?_) (some 31) rfl (by kernel_rfl) rfl (fun _ _ _ h => h) (Or.inl ⟨by rfl, ?_⟩) hS ?_
  rotate_left
  · (intro wq hq; go_simp); first | done | with_reducible rfl
  try simp only [Act.put, List.setIfInBounds_toArray, List.set_cons_zero, List.set_cons_succ]
  replace hS := Till.list 6 hS
  refine ready_g (rs := [7]) (by kernel_rfl) (by simp) ?_
  refine AllReadyG.cons rfl (fun Kont hK => ?_) AllReadyG.nil
  go_simp
  refine hK.out _ _ (Or.inl (by kernel_rfl)) (fun hS0 => ?_)
  clear hK Kont
  try simp only [Act.put, List.setIfInBounds_toArray, List.set_cons_zero, List.set_cons_succ]
  clear hS
  have hS := hS0
  clear hS0
  refine take_w (i := 8) (v := ?_) (some 2) rfl (by kernel_rfl) rfl (fun _ _ _ h => h) (Or.inl ⟨by rfl, ?_⟩) hS ?_
  rotate_left
  · (intro wq hq; go_simp); first | done | with_reducible rfl
  try simp only [Act.put, List.setIfInBounds_toArray, List.set_cons_zero, List.set_cons_succ]
  replace hS := Till.list 8 hS
  refine take_w (i := 9) (v := ?_) (some 3) rfl (by kernel_rfl) rfl (fun _ _ _ h => h) (Or.inl ⟨by rfl, ?_⟩) hS ?_
  rotate_left
  · (intro wq hq; go_simp); first | done | with_reducible rfl
  try simp only [Act.put, List.setIfInBounds_toArray, List.set_cons_zero, List.set_cons_succ]
  replace hS := Till.list 9 hS
  refine done_g (by kernel_rfl) (NoPanic.normal ?_) _
  clear hS
  have ob := Joins.below_alloc1 w6 (.cells (PtA A N C (K : Int) m (G : Int) R n1 c1 A6 (cntG G n1) C6) 84)
  have hpt : PtM (w6.alloc (.cells (PtA A N C (K : Int) m (G : Int) R n1 c1 A6 (cntG G n1) C6) 84)) w6.heap.size ts K m G l :=
    ⟨A, N, C, R, n1, c1, A6, cntG G n1, C6, Bk.new w6 _ _, iv6.alloc _, hNC, rv6.alloc _, hnc, gr6.below ob, h61⟩
  clear x0 x1 x2 x3 x4 cc t4 iv4 rv4 iv6 rv6 gr6 hb6 hb6'
  go_wp2_with fail
  go_ret2
  exact ⟨.inl ⟨w6.heap.size, ts, K, m, G, l, rfl, hpt, hw6.size, HPR⟩, Below.then hw6 ob⟩
end Go.Proofs.YtbfihajgjbpmaaaGreat
