/- Texts that belong together, one behind the other: B7e, B7f. -/
import Derived.Test.YtbfihajgjbpmaaaGreatBlock
import Derived.Test.YtbfihajgjbpmaaaGreatCrcOwn
import Derived.Test.YtbfihajgjbpmaaaGreatIntsOwn
import Derived.Test.YtbfihajgjbpmaaaGreatTextsOwn
/- The document's own answers for layer 7: Put. -/
namespace Go.Proofs.YtbfihajgjbpmaaaGreat
open Go.ChangeShapes Go.WideShapes Go.ChangeAt Go.RowKit
set_option linter.unusedVariables false
set_option maxRecDepth 4000

set_option maxHeartbeats 4000000 in
theorem rput7_any (t : Int) (A : Option Addr) (N C : Nat) (l : List (Int × ByteArray)) (w : World) (hv : WV w A N l) (hr : RgV l) (hN : N ≤ 1000000) :
    Calls Tryz.prog 35 #[.int .i64 t, .slice A N C] w fun e w' => PutB w w' t l e := by
  have hl := Lib.hid (WV.len hv)
  by_cases h1 : t < 1
  · have HC := Lib.hid (colB_type (t := t) (l := l) (by omega))
    go_enter Tryz.func35, Tryz.ntmps35
    go_wp2_with fail
    go_ret2
    exact .inr ⟨HC.out, rfl, Below.refl _ _⟩
  by_cases h3 : 3 < t
  · have HC := Lib.hid (colB_type (t := t) (l := l) (by omega))
    go_enter Tryz.func35, Tryz.ntmps35
    go_wp2_with fail
    go_ret2
    exact .inr ⟨HC.out, rfl, Below.refl _ _⟩
  by_cases h2 : 2000 < N
  · have HC := Lib.hid (colB_big (t := t) (l := l) (by rw [hl.out]; omega))
    have h2i : (2000 : Int) < (N : Int) := by omega
    go_enter Tryz.func35, Tryz.ntmps35
    go_wp2_with fail
    go_ret2
    exact .inr ⟨HC.out, rfl, Below.refl _ _⟩
  have h2i : ¬ (2000 : Int) < (N : Int) := by omega
  have HF := Lib.hid (colB_fit (t := t) (by omega) (l := l) (by rw [hl.out]; omega))
  have o1 : OS 1 ((w.alloc (.cells #[] 2)).alloc (.cells #[] 9)) w.heap.size (.slice (some ⟨w.heap.size, 0, none⟩) 0 0) 0 (icells []) := (OS.lit (k := 1) w w.heap.size (Nat.le_refl _) [] 0 2 rfl (by simp) (by simp) _ rfl).alloc _
  have o2 : OS 1 ((w.alloc (.cells #[] 2)).alloc (.cells #[] 9)) w.heap.size (.slice (some ⟨w.heap.size + 1, 0, none⟩) 0 0) 0 (tcells []) := OS.lit (k := 1) (w.alloc (.cells #[] 2)) w.heap.size (by simp) [] 0 9 rfl (by simp) (by simp) _ (by simp)
  have hw0 : Below w.heap.size w ((w.alloc (.cells #[] 2)).alloc (.cells #[] 9)) := Joins.below_alloc2 _ _ _
  go_enter Tryz.func35, Tryz.ntmps35
  go_wp2_with fail
  go_loopw [6, 7, 8] (fun p q i wr => ∃ j : Nat, j ≤ N ∧ i = .int .i64 (j : Int) ∧ OS 1 wr w.heap.size p j (icells (numsV (l.take j))) ∧ OS 1 wr w.heap.size q j (tcells (txtsV (l.take j))) ∧ Hid (∀ g, p.ownBlock = some g → q.ownBlock ≠ some g) ∧ Hid (∀ i, i < j → fitsB t (l.getD i v0).1 (l.getD i v0).2 = true) ∧ Below w.heap.size w wr) (fun _ _ i _ => N - (intOf i).toNat)
  case atStart => exact ⟨0, by omega, rfl, o1, o2, Lib.hid (fun g h1 h2 => by have e1 : some w.heap.size = some g := h1; have e2 : some (w.heap.size + 1) = some g := h2; rw [← e1] at e2; simp at e2), Lib.hid (fun i hi => by omega), hw0⟩
  case round =>
    clear o1 o2 hw0
    obtain ⟨j, hj, rfl, op, oq, HD, HT, hbel⟩ := hrel
    by_cases hlt : j < N
    · have hji : (j : Int) < (N : Int) := by omega
      obtain ⟨b, off, rfl, hd1, hd2⟩ := WV.at hv j hlt
      have hv1 := keepc hd1 hbel
      have hv2 := keepc hd2 hbel
      have HS1 := Lib.hid (numsV_snoc (l := l) (j := j) (by rw [hl.out]; exact hlt))
      have HS2 := Lib.hid (txtsV_snoc (l := l) (j := j) (by rw [hl.out]; exact hlt))
      generalize hy : l.getD j v0 = y at hd1 hd2 hv1 hv2 HS1 HS2
      have HY := Lib.hid hy
      clear hy
      go_wp2_with fail
      refine (rfits_any t y.1 y.2 _).mono ?_
      rintro e w1 ⟨rfl, hb1⟩
      replace op := op.below hb1
      replace oq := oq.below hb1
      replace hbel := Below.then hbel hb1
      replace hv1 := keepc hd1 hbel
      replace hv2 := keepc hd2 hbel
      clear hb1
      cases h5 : fitsB t y.1 y.2
      · have HC := Lib.hid (show colB t l = false by rw [HF.out]; exact fitAll_no (j := j) (by rw [hl.out]; exact hlt) (by rw [HY.out]; exact h5))
        go_wp2_with fail
        go_ret2
        exact .inr ⟨HC.out, rfl, hbel⟩
      · have HT' : Hid (∀ i, i < j + 1 → fitsB t (l.getD i v0).1 (l.getD i v0).2 = true) := Lib.hid (fun i hi => by
          by_cases hij : i < j
          · exact HT.out i hij
          · obtain rfl : i = j := by omega
            rw [HY.out]; exact h5)
        clear h5
        have hone1 : SV 1 (w1.alloc (.cells #[.int .i64 y.1] 2)) (some ⟨w1.heap.size, 0, none⟩) 1 (icells [y.1]) := SV.lit (k := 1) w1 (icells [y.1]) 1 2 rfl (icells_one _)
        replace op := op.alloc (.cells #[.int .i64 y.1] 2)
        replace oq := oq.alloc (.cells #[.int .i64 y.1] 2)
        replace hbel := hbel.alloc hbel.size (.cells #[.int .i64 y.1] 2)
        have hs1 := hbel.size
        have HQ : Hid (∀ g, u7.ownBlock = some g → g < (w1.alloc (.cells #[.int .i64 y.1] 2)).heap.size) := Lib.hid (fun g hg => (oq.ownLow hg).2)
        go_wp2_with (at_builtin; first | (refine append_os2 el_i64s rfl (.tmp 37) (.tmp 43) rfl w.heap.size _ j _ rfl op _ 1 1 _ rfl hone1 (by omega) (by omega) hs1 ?_; intro v2 w2 ho2 hb2 ob2 hk2; have HK : Hid (∀ b, b < (w1.alloc (.cells #[.int .i64 y.1] 2)).heap.size → u6.ownBlock ≠ some b → w2.heap[b]? = (w1.alloc (.cells #[.int .i64 y.1] 2)).heap[b]?) := Lib.hid hk2; have HO : Hid (v2.ownBlock = u6.ownBlock ∨ v2.ownBlock = some (w1.alloc (.cells #[.int .i64 y.1] 2)).heap.size) := Lib.hid ob2; clear hk2 ob2; have hbel2 := hbel.trans hb2; have hs2 := hbel2.size; have hv12 := keepc hd1 hbel2; have hv22 := keepc hd2 hbel2; have oq2 : OS 1 w2 w.heap.size u7 j (tcells (txtsV (l.take j))) := oq.same (fun g hg hlt => HK.out g hlt (fun e => HD.out g e hg)); have hone2 : SV 1 (w2.alloc (.cells #[.string y.2] 9)) (some ⟨w2.heap.size, 0, none⟩) 1 (tcells [y.2]) := SV.lit (k := 1) w2 (tcells [y.2]) 1 9 rfl (tcells_one _); have hs3 : w.heap.size ≤ (w2.alloc (.cells #[.string y.2] 9)).heap.size := by simp; omega) | (refine append_os2 el_texts rfl (.tmp 45) (.tmp 51) rfl w.heap.size _ j _ rfl (oq2.alloc _) _ 1 1 _ rfl hone2 (by omega) (by omega) hs3 ?_; intro v3 w3 ho3 hb3 ob3 hk3))
        go_roundw
        case rel =>
          have ho4 : OS 1 w3 w.heap.size v2 (j + 1) (icells (numsV (l.take (j + 1)))) := by
            rw [HS1.out, icells_app]
            refine (ho2.alloc (.cells #[.string y.2] 9)).same (fun g hg hlt => hk3 g hlt (fun e => ?_))
            rcases HO.out with h | h
            · exact HD.out g (by rw [← h]; exact hg) e
            · have := HQ.out g e
              rw [h] at hg; cases hg; omega
          have hd4 : ∀ g, v2.ownBlock = some g → v3.ownBlock ≠ some g := by
            intro g hg e
            have hg2 := (ho2.ownLow hg).2
            rcases ob3 with h3 | h3
            · rw [h3] at e
              rcases HO.out with h | h
              · exact HD.out g (by rw [← h]; exact hg) e
              · have := HQ.out g e
                rw [h] at hg; cases hg; omega
            · rw [h3] at e
              simp at e; omega
          exact ⟨j + 1, by omega, by go_num, ho4, by rw [HS2.out, tcells_app]; exact ho3, Lib.hid hd4, HT', (hbel2.alloc hs2 _).trans hb3⟩
        case measure => simp [intOf]; omega
    · obtain rfl : j = N := by omega
      have HC := Lib.hid (show colB t l = true by rw [HF.out]; exact fitAll_yes (fun i hi => HT.out i (by rw [← hl.out]; exact hi)))
      have HLT := Lib.hid (show l.take j = l by rw [← hl.out, List.take_length])
      rw [HLT.out] at op oq
      have hbl := (bare_len HC.out).2
      obtain ⟨L, hL⟩ : ∃ L, (bareL t l).length = L := ⟨_, rfl⟩
      rw [hL] at hbl
      have HL := Lib.hid hL
      have hu := type_u8 (colB_iff.1 HC.out).1
      clear hL
      by_cases ht : t = 3
      · subst ht
        obtain ⟨A3, C3, rfl, hC3, -, sv, -, -⟩ := oq.sv
        clear op oq
        have ho1 := OW.one wr 3 wr.heap.size (Nat.le_refl _) _ rfl
        have hbb : Below wr.heap.size wr (wr.alloc (.cells #[.int .u8 3] 5)) := Joins.below_alloc1 _ _
        replace sv := sv.alloc (.cells #[.int .u8 3] 5)
        go_wp2_with fail
        refine (rputT_any A3 j C3 _ _ sv (Few60.sm (col_okT HC.out).2) (by omega)).mono ?_
        rintro e w2 ⟨v2, rfl, ho2, hb2⟩
        replace hbb := Below.then hbb hb2
        replace ho1 := ho1.below hb2
        obtain ⟨a2, c2, rfl, -, -, bv2, -⟩ := ho2.bvn (by rw [← bare_txt]; exact bare_bytes HC.out) L (by rw [← bare_txt]; exact HL.out)
        have hs2 := hbb.size
        clear ho2 hb2 sv
        go_wp2_with (at_builtin; refine append_ow rfl (.tmp 57) (.tmp 59) rfl wr.heap.size _ [3] rfl ho1 a2 L c2 _ rfl bv2 (by simp; omega) hs2 ?_; intro v3 w3 ho3 hb3)
        replace hbb := hbb.trans hb3
        have ho4 : OW w3 wr.heap.size v3 (dataL 3 l) := by rw [dataL, bare_txt]; exact ho3
        obtain ⟨a4, c4, rfl, -, -, bv4, -⟩ := ho4.bvn (data_bytes HC.out) (L + 1) (by rw [dataL, List.length_cons, HL.out])
        clear ho1 ho3 ho4 hb3 bv2
        have hs3 := hbb.size
        refine (rframe_any a4 (L + 1) c4 _ _ bv4 (by omega)).mono ?_
        rintro e w4 ⟨v5, rfl, ho5, hb5⟩
        have hs5 := hbel.size
        replace hbb := Below.then hbb hb5
        go_wp2_with fail
        go_ret2
        exact .inl ⟨HC.out, ⟨_, rfl, ho5.mono (by omega)⟩, Below.then hbel hbb⟩
      · have hne : (t == 3) = false := by rw [beq_eq_false_iff_ne]; exact ht
        have HT2 := Lib.hid (show t = 1 ∨ t = 2 by omega)
        clear ht
        obtain ⟨A3, C3, rfl, hC3, -, sv, -, -⟩ := op.sv
        clear op oq
        have ho1 := OW.one wr t wr.heap.size (Nat.le_refl _) _ rfl
        have hbb : Below wr.heap.size wr (wr.alloc (.cells #[.int .u8 t] 5)) := Joins.below_alloc1 _ _
        replace sv := sv.alloc (.cells #[.int .u8 t] 5)
        go_wp2_with fail
        refine (rputI_any A3 j C3 _ _ sv (nums_i64 hr) (by omega)).mono ?_
        rintro e w2 ⟨v2, rfl, ho2, hb2⟩
        replace hbb := Below.then hbb hb2
        replace ho1 := ho1.below hb2
        obtain ⟨a2, c2, rfl, -, -, bv2, -⟩ := ho2.bvn (by rw [← bare_num HT2.out]; exact bare_bytes HC.out) L (by rw [← bare_num HT2.out]; exact HL.out)
        have hs2 := hbb.size
        clear ho2 hb2 sv
        go_wp2_with (at_builtin; refine append_ow rfl (.tmp 64) (.tmp 66) rfl wr.heap.size _ [t] rfl ho1 a2 L c2 _ rfl bv2 (by simp; omega) hs2 ?_; intro v3 w3 ho3 hb3)
        replace hbb := hbb.trans hb3
        have ho4 : OW w3 wr.heap.size v3 (dataL t l) := by rw [dataL, bare_num HT2.out]; exact ho3
        obtain ⟨a4, c4, rfl, -, -, bv4, -⟩ := ho4.bvn (data_bytes HC.out) (L + 1) (by rw [dataL, List.length_cons, HL.out])
        clear ho1 ho3 ho4 hb3 bv2
        have hs3 := hbb.size
        refine (rframe_any a4 (L + 1) c4 _ _ bv4 (by omega)).mono ?_
        rintro e w4 ⟨v5, rfl, ho5, hb5⟩
        have hs5 := hbel.size
        replace hbb := Below.then hbb hb5
        go_wp2_with fail
        go_ret2
        exact .inl ⟨HC.out, ⟨_, rfl, ho5.mono (by omega)⟩, Below.then hbel hbb⟩
end Go.Proofs.YtbfihajgjbpmaaaGreat
/- The document's own answers for layer 7: Take. -/
namespace Go.Proofs.YtbfihajgjbpmaaaGreat
open Go.ChangeShapes Go.WideShapes Go.ChangeAt Go.RowKit
set_option linter.unusedVariables false
set_option maxRecDepth 4000

/-- a slice that was there already, beside a new slice without elements -/
theorem apart {k : Nat} {w w2 : World} {T : TypeId} {A : Option Addr} {N : Nat} {cs : List Value} (hb : Bk w2 w.heap.size #[] T) (h : SV k w2 A N cs) (hc : 1 ≤ cs.length) : ∀ x, A = some x → x.block < w2.heap.size ∧ x.block ≠ w.heap.size := by
  intro x hx
  rcases h.2.2 with h3 | ⟨b, off, rfl, hcell⟩
  · have := h.1; rw [h3, Nat.zero_mul] at this; omega
  · cases hx
    have h0 := hcell 0 cs[0] (List.getElem?_eq_getElem (by omega))
    refine ⟨cell_lt h0, fun e => ?_⟩
    have e' : b = w.heap.size := e
    subst e'
    rw [World.cell?, hb] at h0
    simp at h0
theorem row_own7 {w : World} {base : Nat} {a : Option Addr} {m c : Nat} {n : Nat} {vs : List (Int × ByteArray)} (h : OS 2 w base (.slice a m c) n (vcells vs)) : RowAt w (.slice a m c) vs := by
  have hl : vs.length = n := by have := h.1; rw [vcells_len] at this; omega
  obtain ⟨a', c', e, h1, h2, h3, h4, h5⟩ := h.sv
  cases e
  refine ⟨a, m, c, rfl, h1, h2, hl, h3, fun ha => ?_⟩
  subst ha
  rcases h.2.2 with ⟨h6, _⟩ | ⟨g, cap, cur, T, h6, _⟩
  · cases h6; rfl
  · cases h6
theorem own_low7 {k : Nat} {w : World} {base : Nat} {p : Addr} {m c : Nat} {n : Nat} {cs : List Value} (h : OS k w base (.slice (some p) m c) n cs) : base ≤ p.block := by
  rcases h.2.2 with ⟨h6, _⟩ | ⟨g, cap, cur, T, h6, hg, _⟩
  · cases h6
  · cases h6; exact hg
/-- what Take tells, and that it is new -/
def TakeF (w w' : World) (t : Int) (zs : List Int) (e : Ending) : Prop :=
  ∃ (A : Option Addr) (N C : Nat) (l : List (Int × ByteArray)) (s ev : Int), e = .returned (.tuple #[.slice A N C, .int .i64 s, .int .i64 ev]) ∧ N ≤ 2000 ∧ RowAt w' (.slice A N C) l ∧ Hid (∀ x, A = some x → w.heap.size ≤ x.block) ∧ Hid (SaysB t zs l s ev) ∧ Below w.heap.size w w'
theorem TakeF.c {w w' : World} {t : Int} {zs : List Int} {e : Ending} (h : TakeF w w' t zs e) : TakeC w w' t zs e := by
  obtain ⟨A, N, C, l, s, ev, h1, h2, h3, -, h4, h5⟩ := h
  exact ⟨A, N, C, l, s, ev, h1, h2, h3, h4, h5⟩
set_option maxHeartbeats 4000000 in
theorem rtake7F_any (t : Int) (a : Option Addr) (n c : Nat) (zs : List Int) (w : World) (hv : BV w a n zs) (hc : n ≤ c) (hn : n ≤ 1000000) :
    Calls Tryz.prog 100 #[.int .i64 t, .slice a n c] w fun e w' => TakeF w w' t zs e := by
  have hdl := unf_dlen (zs := zs)
  rw [hv.1] at hdl
  have hdb := unf_dbytes hv.2.1
  have her := unf_err (zs := zs)
  go_enter Tryz.func100, Tryz.ntmps100
  go_wp2_with fail
  refine (runframe_any a n c zs _ hv hc (by omega)).mono ?_
  obtain ⟨D, hD⟩ : ∃ D, (unf zs).1 = D := ⟨_, rfl⟩
  obtain ⟨s, hs⟩ : ∃ s, (unf zs).2.1 = s := ⟨_, rfl⟩
  obtain ⟨ev, hev⟩ : ∃ ev, (unf zs).2.2 = ev := ⟨_, rfl⟩
  rw [hD, hs, hev]
  rw [hD] at hdl hdb
  rw [hev] at her
  have HU : Hid (unf zs = (D, s, ev)) := Lib.hid (Prod.ext hD (Prod.ext hs hev))
  clear hD hs hev
  rintro e w1 ⟨v, rfl, ho, hb1⟩
  obtain ⟨m, hm⟩ : ∃ m, D.length = m := ⟨_, rfl⟩
  have HM := Lib.hid hm
  rw [hm] at hdl
  obtain ⟨a1, c1, rfl, hc1, -, bv, -⟩ := ho.bvn hdb m hm
  clear hm ho
  by_cases h0 : ev = 0
  rotate_left
  · have hne : (ev == 0) = false := by rw [beq_eq_false_iff_ne]; exact h0
    have HS := Lib.hid (show SaysB t zs [] 0 ev from .inr (.inr ⟨rfl, rfl, by rw [HU.out], h0⟩))
    clear bv hdb
    go_wp2_with fail
    go_ret3
    exact ⟨_, 0, 0, [], 0, ev, rfl, by omega, rowAt_nil _, Lib.hid (fun x hx => by cases hx), HS, hb1⟩
  subst h0
  clear her
  cases D with
  | nil =>
    obtain rfl : m = 0 := by rw [← HM.out]; rfl
    have HS := Lib.hid (show SaysB t zs [] 0 10 from .inr (.inl ⟨rfl, rfl, rfl, by rw [HU.out], by rw [HU.out]; exact noB_nil t⟩))
    clear bv hdb
    go_wp2_with fail
    go_ret3
    exact ⟨_, 0, 0, [], 0, 10, rfl, by omega, rowAt_nil _, Lib.hid (fun x hx => by cases hx), HS, hb1⟩
  | cons x r =>
    have hm1 : 1 ≤ m := by rw [← HM.out]; simp
    obtain ⟨a2, hsl0, bv2⟩ := bv.slice_lo 1 c1 hm1 hc1
    rw [show (x :: r).drop 1 = r from rfl] at bv2
    have hxb : 0 ≤ x ∧ x ≤ 255 := hdb x (List.mem_cons_self ..)
    obtain ⟨b, off, rfl, hcell⟩ := bv.opened hm1
    have hcw : w1.cell? ⟨b, off, none⟩ = some (.int .u8 x) := hcell 0 (by omega)
    have hsl : ∀ wx, (Instr.slice 26 (.slice (some ⟨b, off, none⟩) m c1) (some (.int .i64 1)) none none).run Tryz.prog wx = .ok (.slice a2 (m - 1) (c1 - 1)) wx := hsl0
    have hm1i : ¬ (m : Int) < 1 := by omega
    have hn0 : 0 < m := by omega
    have hxw : IntKind.i64.wrap x = x := by rw [IntKind.wrap_i64]; omega
    clear hsl0 hcell bv hdb
    by_cases ht1 : t < 1
    · have HS := Lib.hid (show SaysB t zs [] 0 10 from .inr (.inl ⟨rfl, rfl, rfl, by rw [HU.out], noB_type (by omega)⟩))
      go_wp2_with fail
      go_ret3
      exact ⟨_, 0, 0, [], 0, 10, rfl, by omega, rowAt_nil _, Lib.hid (fun x hx => by cases hx), HS, hb1⟩
    by_cases ht3 : 3 < t
    · have HS := Lib.hid (show SaysB t zs [] 0 10 from .inr (.inl ⟨rfl, rfl, rfl, by rw [HU.out], noB_type (by omega)⟩))
      go_wp2_with fail
      go_ret3
      exact ⟨_, 0, 0, [], 0, 10, rfl, by omega, rowAt_nil _, Lib.hid (fun x hx => by cases hx), HS, hb1⟩
    by_cases hx : x = t
    rotate_left
    · have HS := Lib.hid (show SaysB t zs [] 0 10 from .inr (.inl ⟨rfl, rfl, rfl, by rw [HU.out], by rw [HU.out]; exact noB_head hx⟩))
      have hxe : (x != t) = true := bne_iff_ne.2 hx
      clear hx
      go_wp2_with fail
      go_ret3
      exact ⟨_, 0, 0, [], 0, 10, rfl, by omega, rowAt_nil _, Lib.hid (fun x hx => by cases hx), HS, hb1⟩
    subst hx
    have ho0 : OS 2 (w1.alloc (.cells #[] 62)) w1.heap.size (.slice (some ⟨w1.heap.size, 0, none⟩) 0 0) 0 (vcells []) := OS.lit (k := 2) w1 w1.heap.size (by simp) [] 0 62 rfl (by simp) (by simp) _ (by simp)
    replace bv2 := bv2.alloc (.cells #[] 62)
    have hb2 : Below w1.heap.size w1 (w1.alloc (.cells #[] 62)) := Joins.below_alloc1 _ _
    have hs1 := hb1.size
    have hB1 := Bk.new w1 #[] 62
    by_cases h3 : x = 3
    · subst h3
      go_wp2_with fail
      refine (rtakeT_any a2 (m - 1) (c1 - 1) r _ bv2 (by omega) (by omega)).mono ?_
      rintro e w2 he
      rcases he with ⟨A, N, C, l, rfl, hC, hN, hi, hl, hp, hb3⟩ | ⟨rfl, hno, hb3⟩
      rotate_left
      · have HS := Lib.hid (show SaysB 3 zs [] 0 10 from .inr (.inl ⟨rfl, rfl, rfl, by rw [HU.out], by rw [HU.out]; exact noB_txt hno⟩))
        clear hno bv2
        go_wp2_with fail
        go_ret3
        exact ⟨_, 0, 0, [], 0, 10, rfl, by omega, rowAt_nil _, Lib.hid (fun x hx => by cases hx), HS, Below.then hb1 (Below.then hb2 hb3)⟩
      · have hll := Lib.hid (TV.len hl)
        have HS := Lib.hid (show SaysB 3 zs (ofT l) s 0 from .inl ⟨rfl, colB_ofT (by rw [hll.out]; exact hN) hi, ofT_rg l, by rw [HU.out, dataL, bare_txt, txtsV_ofT, hp]⟩)
        replace ho0 := ho0.below hb3
        have hB2 := hB1.below hb3
        replace hb2 := Below.then hb2 hb3
        have hsz2 := hb2.size
        have HA : Hid (1 ≤ N → ∀ x, A = some x → x.block < w2.heap.size ∧ x.block ≠ w1.heap.size) := Lib.hid (fun h1 => apart hB2 hl (by rw [tcells, List.length_map, hll.out]; exact h1))
        clear hp bv2 hb3 hB2
        go_wp2_with fail
        go_loopw [10, 13] (fun v i wr => ∃ j : Nat, j ≤ N ∧ i = .int .i64 (j : Int) ∧ OS 2 wr w1.heap.size v j (vcells (ofT (l.take j))) ∧ Hid (∀ g, v.ownBlock = some g → g = w1.heap.size ∨ w2.heap.size ≤ g) ∧ TV wr A N l ∧ w2.heap.size ≤ wr.heap.size ∧ Below w1.heap.size w1 wr) (fun _ i _ => N - (intOf i).toNat)
        case atStart => exact ⟨0, by omega, rfl, ho0, Lib.hid (fun g hg => .inl (by have : some w1.heap.size = some g := hg; cases this; rfl)), hl, Nat.le_refl _, hb2⟩
        case round =>
          clear ho0 hb2 hl
          obtain ⟨j, hj, rfl, ho, HO, hl, hsz, hb2⟩ := hrel
          by_cases hlt : j < N
          · have hji : (j : Int) < (N : Int) := by omega
            obtain ⟨b3, off3, rfl, hd1⟩ := TV.at hl j hlt
            have hsn := Lib.hid (ofT_snoc (l := l) (j := j) (by rw [hll.out]; exact hlt))
            obtain ⟨hlt3, hne3⟩ : b3 < w2.heap.size ∧ b3 ≠ w1.heap.size := HA.out (by omega) _ rfl
            generalize l.getD j ⟨#[]⟩ = y at hd1 hsn
            have hl4 := hl.alloc (.cells #[.int .i64 0, .string y] 62)
            have hb4 := hb2.alloc hb2.size (.cells #[.int .i64 0, .string y] 62)
            have hs4 : wr.heap.size < (wr.alloc (.cells #[.int .i64 0, .string y] 62)).heap.size := by simp
            have hs5 := hb4.size
            go_wp2_with (at_builtin; refine append_os2 el_vals rfl (.tmp 63) (.tmp 69) rfl w1.heap.size _ j _ rfl (ho.alloc _) _ 1 1 [.int .i64 0, .string y] rfl (SV.lit' (k := 2) _ [.int .i64 0, .string y] 1 62 rfl (two_one _ _) _ rfl) (by omega) (by omega) hs5 ?_; intro v3 w3 ho3 hb3 ob3 hk3; have HK : Hid (∀ b, b < (wr.alloc (.cells #[.int .i64 0, .string y] 62)).heap.size → u10.ownBlock ≠ some b → w3.heap[b]? = (wr.alloc (.cells #[.int .i64 0, .string y] 62)).heap[b]?) := Lib.hid hk3; have HO3 : Hid (v3.ownBlock = u10.ownBlock ∨ v3.ownBlock = some (wr.alloc (.cells #[.int .i64 0, .string y] 62)).heap.size) := Lib.hid ob3; clear hk3 ob3)
            go_roundw
            case rel =>
              refine ⟨j + 1, by omega, by go_num, by rw [hsn.out, vcells_app]; exact ho3, Lib.hid (fun g hg => ?_), hl4.other (fun x hx hlt => ?_), ?_, hb4.trans hb3⟩
              · rcases HO3.out with h | h
                · exact HO.out g (by rw [← h]; exact hg)
                · rw [h] at hg; cases hg; right; omega
              · cases hx
                exact HK.out b3 hlt (fun e => by have := HO.out b3 e; omega)
              · have := hb3.size; omega
            case measure => simp [intOf]; omega
          · obtain rfl : j = N := by omega
            rw [show l.take j = l by rw [← hll.out, List.take_length]] at ho
            obtain ⟨A5, C5, rfl, hC5, hmx, wv, -, -⟩ := ho.sv
            have hrow := row_own7 ho
            have hfr : Hid (∀ x, A5 = some x → w.heap.size ≤ x.block) := Lib.hid (fun x hx => by subst hx; have := own_low7 ho; omega)
            clear wv hmx
            go_wp2_with fail
            go_ret3
            exact ⟨A5, j, C5, ofT l, s, 0, rfl, hN, hrow, hfr, HS, Below.then hb1 hb2⟩
    · have h12 := Lib.hid (show x = 1 ∨ x = 2 by omega)
      have h3e : (x == 3) = false := by rw [beq_eq_false_iff_ne]; exact h3
      clear h3
      go_wp2_with fail
      refine (rtakeI_any a2 (m - 1) (c1 - 1) r _ bv2 (by omega) (by omega)).mono ?_
      rintro e w2 he
      rcases he with ⟨A, N, C, l, rfl, hC, hN, hi, hl, hp, hb3⟩ | ⟨rfl, hno, hb3⟩
      rotate_left
      · have HS := Lib.hid (show SaysB x zs [] 0 10 from .inr (.inl ⟨rfl, rfl, rfl, by rw [HU.out], by rw [HU.out]; exact noB_num h12.out hno⟩))
        clear hno bv2
        go_wp2_with fail
        go_ret3
        exact ⟨_, 0, 0, [], 0, 10, rfl, by omega, rowAt_nil _, Lib.hid (fun x hx => by cases hx), HS, Below.then hb1 (Below.then hb2 hb3)⟩
      · have hll := Lib.hid (IV.len hl)
        have HS := Lib.hid (show SaysB x zs (ofN l) s 0 from .inl ⟨rfl, colB_ofN h12.out (by rw [hll.out]; exact hN), ofN_rg hi, by rw [HU.out, dataL, bare_num h12.out, numsV_ofN, hp]⟩)
        replace ho0 := ho0.below hb3
        have hB2 := hB1.below hb3
        replace hb2 := Below.then hb2 hb3
        have hsz2 := hb2.size
        have HA : Hid (1 ≤ N → ∀ x, A = some x → x.block < w2.heap.size ∧ x.block ≠ w1.heap.size) := Lib.hid (fun h1 => apart hB2 hl (by rw [icells, List.length_map, hll.out]; exact h1))
        clear hp bv2 hb3 hB2
        go_wp2_with fail
        go_loopw [10, 16] (fun v i wr => ∃ j : Nat, j ≤ N ∧ i = .int .i64 (j : Int) ∧ OS 2 wr w1.heap.size v j (vcells (ofN (l.take j))) ∧ Hid (∀ g, v.ownBlock = some g → g = w1.heap.size ∨ w2.heap.size ≤ g) ∧ IV wr A N l ∧ w2.heap.size ≤ wr.heap.size ∧ Below w1.heap.size w1 wr) (fun _ i _ => N - (intOf i).toNat)
        case atStart => exact ⟨0, by omega, rfl, ho0, Lib.hid (fun g hg => .inl (by have : some w1.heap.size = some g := hg; cases this; rfl)), hl, Nat.le_refl _, hb2⟩
        case round =>
          clear ho0 hb2 hl
          obtain ⟨j, hj, rfl, ho, HO, hl, hsz, hb2⟩ := hrel
          by_cases hlt : j < N
          · have hji : (j : Int) < (N : Int) := by omega
            obtain ⟨b3, off3, rfl, hd1⟩ := IV.at hl j hlt
            have hsn := Lib.hid (ofN_snoc (l := l) (j := j) (by rw [hll.out]; exact hlt))
            obtain ⟨hlt3, hne3⟩ : b3 < w2.heap.size ∧ b3 ≠ w1.heap.size := HA.out (by omega) _ rfl
            generalize l.getD j 0 = y at hd1 hsn
            have hl4 := hl.alloc (.cells #[.int .i64 y, .string ⟨#[]⟩] 62)
            have hb4 := hb2.alloc hb2.size (.cells #[.int .i64 y, .string ⟨#[]⟩] 62)
            have hs4 : wr.heap.size < (wr.alloc (.cells #[.int .i64 y, .string ⟨#[]⟩] 62)).heap.size := by simp
            have hs5 := hb4.size
            go_wp2_with (at_builtin; refine append_os2 el_vals rfl (.tmp 88) (.tmp 94) rfl w1.heap.size _ j _ rfl (ho.alloc _) _ 1 1 [.int .i64 y, .string ⟨#[]⟩] rfl (SV.lit' (k := 2) _ [.int .i64 y, .string ⟨#[]⟩] 1 62 rfl (two_one _ _) _ rfl) (by omega) (by omega) hs5 ?_; intro v3 w3 ho3 hb3 ob3 hk3; have HK : Hid (∀ b, b < (wr.alloc (.cells #[.int .i64 y, .string ⟨#[]⟩] 62)).heap.size → u10.ownBlock ≠ some b → w3.heap[b]? = (wr.alloc (.cells #[.int .i64 y, .string ⟨#[]⟩] 62)).heap[b]?) := Lib.hid hk3; have HO3 : Hid (v3.ownBlock = u10.ownBlock ∨ v3.ownBlock = some (wr.alloc (.cells #[.int .i64 y, .string ⟨#[]⟩] 62)).heap.size) := Lib.hid ob3; clear hk3 ob3)
            go_roundw
            case rel =>
              refine ⟨j + 1, by omega, by go_num, by rw [hsn.out, vcells_app]; exact ho3, Lib.hid (fun g hg => ?_), hl4.other (fun x hx hlt => ?_), ?_, hb4.trans hb3⟩
              · rcases HO3.out with h | h
                · exact HO.out g (by rw [← h]; exact hg)
                · rw [h] at hg; cases hg; right; omega
              · cases hx
                exact HK.out b3 hlt (fun e => by have := HO.out b3 e; omega)
              · have := hb3.size; omega
            case measure => simp [intOf]; omega
          · obtain rfl : j = N := by omega
            rw [show l.take j = l by rw [← hll.out, List.take_length]] at ho
            obtain ⟨A5, C5, rfl, hC5, hmx, wv, -, -⟩ := ho.sv
            have hrow := row_own7 ho
            have hfr : Hid (∀ x, A5 = some x → w.heap.size ≤ x.block) := Lib.hid (fun x hx => by subst hx; have := own_low7 ho; omega)
            clear wv hmx
            go_wp2_with fail
            go_ret3
            exact ⟨A5, j, C5, ofN l, s, 0, rfl, hN, hrow, hfr, HS, Below.then hb1 hb2⟩
end Go.Proofs.YtbfihajgjbpmaaaGreat
