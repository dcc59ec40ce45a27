/- Texts that belong together, one behind the other: QBf, QBn, QBo. -/
import Derived.Test.YtbfihajgjbpmaaaGreatPrtC
import Derived.Test.YtbfihajgjbpmaaaGreatGrnB
import Derived.Test.YtbfihajgjbpmaaaGreatGrnC
/- Stage 11: Write. -/
namespace Go.Proofs.YtbfihajgjbpmaaaGreat
open Go.ChangeShapes Go.WideShapes Go.ChangeAt Go.RowKit
set_option linter.unusedVariables false
set_option maxRecDepth 4000

/-- what Write tells -/
def WriteE (w w' : World) (ts : List Int) (k m g : Int) (l : List RowV) (e : Ending) : Prop :=
  (chE ts k m g l = 0 ∧ ∃ v, e = .returned (.tuple #[v, .int .i64 0]) ∧ OU w' w.heap.size v (partL ts k.toNat m g.toNat l) ∧ Below w.heap.size w w') ∨
  (chE ts k m g l ≠ 0 ∧ e = .returned (.tuple #[.slice none 0 0, .int .i64 (chE ts k m g l)]) ∧ Below w.heap.size w w')
set_option maxHeartbeats 2000000 in
theorem pwrite_any (A : Option Addr) (N C : Nat) (ts : List Int) (k m g : Int) (R : Option Addr) (n c : Nat) (vss : List RowV) (w : World) (hv : IV w A N ts) (hN : N ≤ maxLen) (hNC : N ≤ C) (hr : RVs w R n vss) (hn : n ≤ maxLen) (hg : ∀ v ∈ vss, RgV v) :
    Calls Tryz.prog 11 #[SS A N C k m g, .slice R n c] w fun e w' => WriteE w w' ts k m g vss e := by
  have HG := Lib.hid hg
  clear hg
  have hb0 := Joins.below_alloc2 w (.cells #[.slice A N C, .int .i64 k, .int .i64 m, .int .i64 g] 24) (.cells (TbA A N C k m g R n c) 66)
  have t0 := Bk.new (w.alloc (.cells #[.slice A N C, .int .i64 k, .int .i64 m, .int .i64 g] 24)) (TbA A N C k m g R n c) 66
  rw [heap_alloc] at t0
  obtain ⟨c0, c1, c2, c3, c4⟩ := t0.tb
  go_enter Tryz.func11, Tryz.ntmps11
  go_wp2_with fail
  clear c0 c1 c2 c3 c4
  refine (pcheck_any A N C ts k m g R n c vss _ (hv.below hb0) hN (hr.below hb0) hn HG.out).mono ?_
  rintro e w1 ⟨rfl, hb1⟩
  have t1 := t0.below hb1
  have hw1 := Below.then hb0 hb1
  obtain ⟨ce, hce⟩ : ∃ ce, chE ts k m g vss = ce := ⟨_, rfl⟩
  rw [hce]
  have HCE := Lib.hid hce
  clear t0 hb0 hb1 hce
  obtain ⟨c0, c1, c2, c3, c4⟩ := t1.tb
  by_cases h0 : ce = 0
  · subst h0
    obtain ⟨hpo, ek, eg, hfr⟩ := chE_part HCE.out HG.out
    obtain ⟨K, rfl⟩ : ∃ K : Nat, k = (K : Int) := ⟨k.toNat, ek.symm⟩
    obtain ⟨G, rfl⟩ : ∃ G : Nat, g = (G : Int) := ⟨g.toNat, eg.symm⟩
    rw [Int.toNat_natCast, Int.toNat_natCast] at hpo
    have HP := Lib.hid hpo
    clear hpo hfr ek eg
    go_wp2_with fail
    refine (pput_any A N C ts K m G R n c vss _ (hv.below hw1) hNC (hr.below hw1) HP.out).mono ?_
    rintro e w2 ⟨v2, rfl, ou2, hb2⟩
    have hw2 := Below.then hw1 hb2
    have ou3 := ou2.mono hw1.size
    clear ou2 c0 c1 c2 c3 c4
    go_wp2_with fail
    go_ret2
    exact .inl ⟨HCE.out, v2, rfl, by rw [Int.toNat_natCast, Int.toNat_natCast]; exact ou3, hw2⟩
  · have h0' : ¬ ce = 0 := h0
    have HN := Lib.hid h0
    clear h0
    go_wp2_with fail
    go_ret2
    exact .inr ⟨by rw [HCE.out]; exact HN.out, by rw [HCE.out]; rfl, hw1⟩
end Go.Proofs.YtbfihajgjbpmaaaGreat
/- Stage 11: what a part tells, each its own. -/
namespace Go.Proofs.YtbfihajgjbpmaaaGreat
open Go.ChangeShapes Go.WideShapes Go.ChangeAt Go.RowKit
set_option linter.unusedVariables false
set_option maxRecDepth 4000

set_option maxHeartbeats 1000000 in
theorem vclone_any (a : Option Addr) (n cap : Nat) (cs : List Value) (w : World) (hv : SV 2 w a n cs) (hl : n ≤ 1000000) :
    Calls Tryz.prog 48 #[.slice a n cap] w fun e w' => ∃ v, e = .returned v ∧ OS 2 w' w.heap.size v n cs ∧ Below w.heap.size w w' := by
  cases a with
  | none =>
    have hn : n = 0 := by
      rcases hv.2.2 with h | ⟨b, off, h, _⟩
      · exact h
      · cases h
    subst hn
    have hz : cs = [] := List.eq_nil_of_length_eq_zero (by have := hv.1; omega)
    subst hz
    clear hv
    have hnil : ∀ wx, (binOp .eql 46 (.slice none 0 cap) (.slice none 0 0)).run Tryz.prog wx = .ok (.bool true) wx := fun wx => Lib.run_eql_slice_nil wx 46 62 none 0 cap 0 0 Tryz.underlying46
    go_enter Tryz.func48, Tryz.ntmps48
    go_wp2
    go_ret
    exact ⟨_, rfl, OS.nil _ _, Below.refl _ _⟩
  | some x =>
    have hnil : ∀ wx, (binOp .eql 46 (.slice (some x) n cap) (.slice none 0 0)).run Tryz.prog wx = .ok (.bool false) wx := fun wx => Lib.run_eql_slice_nil wx 46 62 (some x) n cap 0 0 Tryz.underlying46
    have hw1 : Below w.heap.size w (w.alloc (.cells #[] 62)) := Joins.below_alloc1 _ _
    have o0 : OS 2 (w.alloc (.cells #[] 62)) w.heap.size (.slice (some ⟨w.heap.size, 0, none⟩) 0 0) 0 [] := OS.lit (k := 2) w w.heap.size (Nat.le_refl _) [] 0 62 rfl (by simp) (by simp) _ rfl
    have hv1 := SV.below hv hw1
    go_enter Tryz.func48, Tryz.ntmps48
    go_wp2_with (at_builtin; refine append_os el_row rfl (.tmp 5) (.tmp 6) rfl w.heap.size _ 0 [] rfl o0 (some x) n cap cs rfl hv1 (by omega) (by omega) hw1.size ?_; intro v2 w2 ho2 hb2; rw [Nat.zero_add, List.nil_append] at ho2)
    go_ret
    exact ⟨_, rfl, ho2, hw1.trans hb2⟩
set_option maxHeartbeats 1000000 in
theorem iclone_any (a : Option Addr) (n cap : Nat) (cs : List Value) (w : World) (hv : SV 1 w a n cs) (hl : n ≤ 1000000) :
    Calls Tryz.prog 51 #[.slice a n cap] w fun e w' => ∃ v, e = .returned v ∧ OS 1 w' w.heap.size v n cs ∧ Below w.heap.size w w' := by
  cases a with
  | none =>
    have hn : n = 0 := by
      rcases hv.2.2 with h | ⟨b, off, h, _⟩
      · exact h
      · cases h
    subst hn
    have hz : cs = [] := List.eq_nil_of_length_eq_zero (by have := hv.1; omega)
    subst hz
    clear hv
    have hnil : ∀ wx, (binOp .eql 22 (.slice none 0 cap) (.slice none 0 0)).run Tryz.prog wx = .ok (.bool true) wx := fun wx => Lib.run_eql_slice_nil wx 22 3 none 0 cap 0 0 Tryz.underlying22
    go_enter Tryz.func51, Tryz.ntmps51
    go_wp2
    go_ret
    exact ⟨_, rfl, OS.nil _ _, Below.refl _ _⟩
  | some x =>
    have hnil : ∀ wx, (binOp .eql 22 (.slice (some x) n cap) (.slice none 0 0)).run Tryz.prog wx = .ok (.bool false) wx := fun wx => Lib.run_eql_slice_nil wx 22 3 (some x) n cap 0 0 Tryz.underlying22
    have hw1 : Below w.heap.size w (w.alloc (.cells #[] 3)) := Joins.below_alloc1 _ _
    have o0 : OS 1 (w.alloc (.cells #[] 3)) w.heap.size (.slice (some ⟨w.heap.size, 0, none⟩) 0 0) 0 [] := OS.lit (k := 1) w w.heap.size (Nat.le_refl _) [] 0 3 rfl (by simp) (by simp) _ rfl
    have hv1 := SV.below hv hw1
    go_enter Tryz.func51, Tryz.ntmps51
    go_wp2_with (at_builtin; refine append_os el_ints rfl (.tmp 5) (.tmp 6) rfl w.heap.size _ 0 [] rfl o0 (some x) n cap cs rfl hv1 (by omega) (by omega) hw1.size ?_; intro v2 w2 ho2 hb2; rw [Nat.zero_add, List.nil_append] at ho2)
    go_ret
    exact ⟨_, rfl, ho2, hw1.trans hb2⟩
/-- copies of rows, each of them new -/
def CpR (w : World) (M gb n : Nat) (l : List RowV) : Prop := ∃ ps : List P9, ps.length = n ∧ ps.map (·.2) = l ∧ Bk w gb (pcF ps n) 46 ∧ M ≤ gb ∧ ∀ p ∈ ps, OS 2 w M (sV p.1) p.1.2.1 (vcells p.2)
theorem CpR.rvs {w : World} {M gb n : Nat} {l : List RowV} (h : CpR w M gb n l) : RVs w (some ⟨gb, 0, none⟩) n l := by
  obtain ⟨ps, h1, h2, h3, h4, h5⟩ := h
  rw [← h2]
  exact RVs.of (pcF_full h3 h1) (fun p hp => (rowRep.own (h5 p hp)).1)
theorem CpR.below {w w' : World} {M gb n : Nat} {l : List RowV} (h : CpR w M gb n l) (hb : Below w.heap.size w w') : CpR w' M gb n l := by
  obtain ⟨ps, h1, h2, h3, h4, h5⟩ := h
  exact ⟨ps, h1, h2, h3.below hb, h4, fun p hp => (h5 p hp).below hb⟩
theorem CpR.lower {w : World} {M M' gb n : Nat} {l : List RowV} (h : CpR w M gb n l) (hm : M' ≤ M) : CpR w M' gb n l := by
  obtain ⟨ps, h1, h2, h3, h4, h5⟩ := h
  exact ⟨ps, h1, h2, h3, by omega, fun p hp => (h5 p hp).lower hm⟩
theorem row_short {l : List RowV} {B i : Nat} (h : ∀ r ∈ l, r.length ≤ B) (hi : i < l.length) : (l.getD i []).length ≤ B := by
  have e : l.getD i [] = l[i] := by simp [List.getD, hi]
  rw [e]; exact h _ (List.getElem_mem _)
set_option maxHeartbeats 2000000 in
theorem pcopies_any (R : Option Addr) (n c : Nat) (l : List RowV) (w : World) (hr : RVs w R n l) (hn : n ≤ 100000) (hs : ∀ r ∈ l, r.length ≤ 1000) :
    Calls Tryz.prog 47 #[.slice R n c] w fun e w' => e = .returned (.slice (some ⟨w.heap.size, 0, none⟩) n n) ∧ CpR w' w.heap.size w.heap.size n l ∧ Below w.heap.size w w' := by
  have hl := Lib.hid hr.1
  have HS := Lib.hid hs
  have hmk := make_rows n (by omega)
  have hbk : Bk (w.alloc (.cells (List.replicate n (Value.slice none 0 0)).toArray 46)) w.heap.size (pcF [] n) 46 := by rw [pcF_nil]; exact Bk.new w _ _
  have hb2 := Joins.below_alloc1 w (.cells (List.replicate n (Value.slice none 0 0)).toArray 46)
  have hsz : (w.alloc (.cells (List.replicate n (Value.slice none 0 0)).toArray 46)).heap.size = w.heap.size + 1 := heap_alloc _ _
  clear hs
  go_enter Tryz.func47, Tryz.ntmps47
  go_wp2_with fail
  clear hmk
  simp only [List.toArray_replicate] at hbk hb2 hsz
  generalize w.alloc (.cells (Array.replicate n (Value.slice none 0 0)) 46) = w3 at *
  go_loopw [4, 5, 11] (fun v4 v5 i wr => ∃ (k : Nat) (ps : List P9), k ≤ n ∧ i = .int .i64 (k : Int) ∧ ps.length = k ∧ Hid (ps.map (·.2) = l.take k) ∧ (∀ p ∈ ps, OS 2 wr (w.heap.size + 1) (sV p.1) p.1.2.1 (vcells p.2)) ∧ Bk wr w.heap.size (pcF ps n) 46 ∧ Below w.heap.size w wr) (fun _ _ i _ => n - (intOf i).toNat)
  case atStart => exact ⟨0, [], by omega, rfl, rfl, Lib.hid (by simp), (fun p hp => by cases hp), hbk, hb2⟩
  case round =>
    clear hbk hb2
    obtain ⟨k, ps, hk, rfl, hpl, hps, hpr, bk, hb⟩ := hrel
    by_cases hlt : k < n
    · have hki : (k : Int) < (n : Int) := by omega
      obtain ⟨b, off, A1, L1, C1, rfl, hc, hL1, hw1⟩ := hr.at k hlt
      have hc := keepc hc hb
      have hw1 := SV.below hw1 hb
      have hshort := row_short HS.out (i := k) (by rw [hl.out]; exact hlt)
      have hL := WV.len hw1
      have hsn : Hid (l.take (k + 1) = l.take k ++ [l.getD k []]) := by
        show _ = _
        rw [List.take_succ_eq_append_getElem (by rw [hl.out]; exact hlt)]
        simp [List.getD, hl.out, hlt]
      obtain ⟨rj, hrj⟩ : ∃ rj, l.getD k [] = rj := ⟨_, rfl⟩
      rw [hrj] at hw1 hsn hshort hL
      have hgb := bk.lt
      clear hrj
      go_wp2_with fail
      refine (vclone_any A1 L1 C1 (vcells rj) _ hw1 (by omega)).mono ?_
      rintro e w4 ⟨v4, rfl, o4, hb4⟩
      have bk4 := bk.below hb4
      have hpr4 : ∀ p ∈ ps, OS 2 w4 (w.heap.size + 1) (sV p.1) p.1.2.1 (vcells p.2) := fun p hp => (hpr p hp).below hb4
      obtain ⟨a4, c4, rfl⟩ := o4.shape
      have o5 := o4.lower (Nat.succ_le_of_lt hgb)
      have hcs := bk4.cell ps.length (pcF_at (by omega))
      have hfs := bk4.free ps.length
      rw [hpl] at hcs hfs
      have bk5 := bk4.set ps.length (sV ((a4, L1, c4), rj).1)
      rw [pcF_set _ (by omega), hpl] at bk5
      have hb5 := (Below.then hb hb4).setCell (p := ⟨w.heap.size, k, none⟩) (Nat.le_refl _) (.slice a4 L1 c4)
      have hpr5 : ∀ p ∈ ps ++ [((a4, L1, c4), rj)], OS 2 (w4.setCell ⟨w.heap.size, k, none⟩ (.slice a4 L1 c4)) (w.heap.size + 1) (sV p.1) p.1.2.1 (vcells p.2) := fun p hp => by
        rcases List.mem_append.1 hp with hp | hp
        · exact (hpr4 p hp).set (by omega) _
        · rw [List.mem_singleton.1 hp]
          exact o5.set (by omega) _
      have hps5 : Hid ((ps ++ [((a4, L1, c4), rj)]).map (·.2) = l.take (k + 1)) := by show _ = _; rw [List.map_append, hps.out, hsn.out]; rfl
      have hpl5 : (ps ++ [((a4, L1, c4), rj)]).length = k + 1 := by rw [List.length_append, hpl]; rfl
      clear bk bk4 hb hb4 o4 o5 hpr hpr4 hw1 hc
      go_wp2_with fail
      clear hcs hfs
      go_roundw
      case rel => exact ⟨k + 1, _, by omega, by go_num, hpl5, hps5, hpr5, bk5, hb5⟩
      case measure => simp [intOf]; omega
    · have hki : ¬ (k : Int) < (n : Int) := by omega
      obtain rfl : k = n := by omega
      have hcp : CpR wr w.heap.size w.heap.size k l := ⟨ps, hpl, by rw [hps.out, List.take_of_length_le (by rw [hl.out]; exact Nat.le_refl _)], bk, Nat.le_refl _, fun p hp => (hpr p hp).lower (Nat.le_succ _)⟩
      clear hpr bk hps
      go_wp2_with fail
      go_ret
      exact ⟨rfl, hcp, hb⟩
end Go.Proofs.YtbfihajgjbpmaaaGreat
/- Stage 11: the methods of a part. -/
namespace Go.Proofs.YtbfihajgjbpmaaaGreat
open Go.ChangeShapes Go.WideShapes Go.ChangeAt Go.RowKit
set_option linter.unusedVariables false
set_option maxRecDepth 4000

section
variable {w : World} {p : Nat} {ts : List Int} {K : Nat} {m : Int} {G : Nat} {l : List RowV}
theorem PartOk.row_len (hp : PartOk ts K m G l) : ∀ r ∈ l, K ≤ r.length ∧ r.length ≤ 1000 := fun r hr => by
  have h1 := hp.rows.len r hr
  obtain ⟨h2, h3, -⟩ := hp.nums
  omega
theorem PartOk.gran_len' (hp : PartOk ts K m G l) {i : Nat} (hi : i < cntG G l.length) : 1 ≤ (granL G l i).length ∧ (granL G l i).length ≤ 64 ∧ ∀ r ∈ granL G l i, K ≤ r.length ∧ r.length ≤ 1000 := by
  obtain ⟨-, -, ⟨h1, h2⟩, -⟩ := hp.nums
  have h3 := gran_in h1 hi
  exact ⟨h3.1, by omega, fun r hr => hp.row_len r (List.mem_of_mem_drop (List.mem_of_mem_take hr))⟩
set_option maxHeartbeats 1000000 in
theorem prows_any (h : PtM w p ts K m G l) : Calls Tryz.prog 18 #[.pointer (some ⟨p, 0, none⟩)] w fun e w' => e = .returned (.int .i64 (l.length : Int)) ∧ w' = w := by
  obtain ⟨A, N, C, R, n, c, A', q, C', h1, h2, h3, h4, h5, h6, h7⟩ := h
  obtain ⟨c0, c1, c2, c3, c4, c5⟩ := h1.pt
  have hl := Lib.hid h4.1
  go_enter Tryz.func18, Tryz.ntmps18
  go_wp2_with fail
  go_ret
  exact ⟨by rw [hl.out]; rfl, rfl⟩
set_option maxHeartbeats 1000000 in
theorem pgrans_any (h : PtM w p ts K m G l) : Calls Tryz.prog 19 #[.pointer (some ⟨p, 0, none⟩)] w fun e w' => e = .returned (.int .i64 (cntG G l.length : Int)) ∧ w' = w := by
  obtain ⟨A, N, C, R, n, c, A', q, C', h1, h2, h3, h4, h5, h6, h7⟩ := h
  obtain ⟨c0, c1, c2, c3, c4, c5⟩ := h1.pt
  have hl := Lib.hid h6.1
  go_enter Tryz.func19, Tryz.ntmps19
  go_wp2_with fail
  go_ret
  refine ⟨?_, rfl⟩
  have := hl.out
  rw [splitL_len] at this
  rw [this]; rfl
/-- whether there is a granule -/
def hasB (q : Nat) (i : Int) : Bool := decide (0 ≤ i ∧ i < (q : Int))
set_option maxHeartbeats 1000000 in
theorem phas_any (h : PtM w p ts K m G l) (i : Int) : Calls Tryz.prog 46 #[.pointer (some ⟨p, 0, none⟩), .int .i64 i] w fun e w' => e = .returned (.bool (hasB (cntG G l.length) i)) ∧ w' = w := by
  obtain ⟨A, N, C, R, n, c, A', q, C', h1, h2, h3, h4, h5, h6, h7⟩ := h
  obtain ⟨c0, c1, c2, c3, c4, c5⟩ := h1.pt
  have hl := h6.1
  rw [splitL_len] at hl
  have HL := Lib.hid hl
  clear hl
  by_cases h0 : 0 ≤ i
  · by_cases h9 : i < (q : Int)
    · go_enter Tryz.func46, Tryz.ntmps46
      go_wp2_with fail
      go_ret
      exact ⟨by rw [HL.out]; simp [hasB, h0, h9], rfl⟩
    · go_enter Tryz.func46, Tryz.ntmps46
      go_wp2_with fail
      go_ret
      exact ⟨by rw [HL.out]; simp [hasB, h9], rfl⟩
  · go_enter Tryz.func46, Tryz.ntmps46
    go_wp2_with fail
    go_ret
    have hf : hasB (cntG G l.length) i = false := decide_eq_false (by omega)
    exact ⟨by rw [hf]; rfl, rfl⟩
set_option maxHeartbeats 1000000 in
theorem pall_any (h : PtM w p ts K m G l) (hp : PartOk ts K m G l) : Calls Tryz.prog 24 #[.pointer (some ⟨p, 0, none⟩)] w fun e w' => ∃ g, e = .returned (.slice (some ⟨g, 0, none⟩) l.length l.length) ∧ CpR w' w.heap.size g l.length l ∧ Below w.heap.size w w' := by
  obtain ⟨A, N, C, R, n, c, A', q, C', h1, h2, h3, h4, h5, h6, h7⟩ := h
  obtain ⟨c0, c1, c2, c3, c4, c5⟩ := h1.pt
  have hl := h4.1
  have hm := hp.most
  have HR := Lib.hid hp.row_len
  rw [hl] at hm
  have HL := Lib.hid hl
  clear hl hp
  go_enter Tryz.func24, Tryz.ntmps24
  go_wp2_with fail
  refine (pcopies_any R n c l _ h4 (by omega) (fun r hr => (HR.out r hr).2)).mono ?_
  rintro e w1 ⟨rfl, cp, hb⟩
  go_wp2_with fail
  go_ret
  exact ⟨w.heap.size, by rw [HL.out]; rfl, by rw [HL.out]; exact cp, hb⟩
/-- what Granule tells -/
def GranE (w w' : World) (G : Nat) (l : List RowV) (i : Int) (e : Ending) : Prop :=
  ((hasB (cntG G l.length) i = true ∧ ∃ g, e = .returned (.tuple #[.slice (some ⟨g, 0, none⟩) (granL G l i.toNat).length (granL G l i.toNat).length, .bool true]) ∧ CpR w' w.heap.size g (granL G l i.toNat).length (granL G l i.toNat)) ∨
    (hasB (cntG G l.length) i = false ∧ e = .returned (.tuple #[.slice none 0 0, .bool false]))) ∧ Below w.heap.size w w'
theorem hasB_is {q : Nat} {i : Int} (h : hasB q i = true) : ∃ k : Nat, i = (k : Int) ∧ k < q := by
  have := of_decide_eq_true h
  exact ⟨i.toNat, by omega, by omega⟩
set_option maxHeartbeats 1000000 in
theorem pgran_any (h : PtM w p ts K m G l) (hp : PartOk ts K m G l) (i : Int) : Calls Tryz.prog 20 #[.pointer (some ⟨p, 0, none⟩), .int .i64 i] w fun e w' => GranE w w' G l i e := by
  have hp' := phas_any h i
  obtain ⟨A, N, C, R, n, c, A', q, C', h1, h2, h3, h4, h5, h6, h7⟩ := h
  obtain ⟨c0, c1, c2, c3, c4, c5⟩ := h1.pt
  have hl := h6.1
  rw [splitL_len] at hl
  obtain ⟨hb, hhb⟩ : ∃ hb, hasB (cntG G l.length) i = hb := ⟨_, rfl⟩
  rw [hhb] at hp'
  have HB := Lib.hid hhb
  go_enter Tryz.func20, Tryz.ntmps20
  go_wp2_with fail
  refine hp'.mono ?_
  rintro e w1 ⟨rfl, hw1⟩
  subst hw1
  cases hb
  · clear hhb hl hp'
    go_wp2_with fail
    go_ret2
    exact ⟨.inr ⟨HB.out, rfl⟩, Below.refl _ _⟩
  · obtain ⟨k, rfl, hk⟩ := hasB_is hhb
    have hkq : k < q := by omega
    have hg := hp.gran_len' hk
    obtain ⟨b, off, u, rfl, hc, hu⟩ := h6.at k hkq
    rw [splitL_at hk] at hu
    obtain ⟨A2, L2, C2, rfl, g1, g2, g3, gs⟩ := hu
    have gr := gs.rvs
    have hgl := gr.1
    rw [hgl] at hg
    have HG := Lib.hid hg.2.2
    have HGL := Lib.hid hgl
    have hL64 : L2 ≤ 64 := hg.2.1
    have hki : (k : Int) < (q : Int) := by omega
    clear hhb hl hp' gs hg hgl hk
    go_wp2_with fail
    refine (pcopies_any A2 L2 C2 (granL G l k) _ gr (by omega) (fun r hr => (HG.out r hr).2)).mono ?_
    rintro e w2 ⟨rfl, cp, hb2⟩
    go_wp2_with fail
    go_ret2
    exact ⟨.inl ⟨HB.out, w1.heap.size, by rw [Int.toNat_natCast, HGL.out]; rfl, by rw [Int.toNat_natCast, HGL.out]; exact cp⟩, hb2⟩
/-- what Mark tells -/
def MarkE (w w' : World) (K G : Nat) (l : List RowV) (i : Int) (e : Ending) : Prop :=
  ((hasB (cntG G l.length) i = true ∧ ∃ v, e = .returned (.tuple #[v, .bool true]) ∧ OS 2 w' w.heap.size v K (vcells ((l.getD (i.toNat * G) []).take K))) ∨
    (hasB (cntG G l.length) i = false ∧ e = .returned (.tuple #[.slice none 0 0, .bool false]))) ∧ Below w.heap.size w w'
set_option maxHeartbeats 2000000 in
theorem pmark_any (h : PtM w p ts K m G l) (hp : PartOk ts K m G l) (i : Int) : Calls Tryz.prog 21 #[.pointer (some ⟨p, 0, none⟩), .int .i64 i] w fun e w' => MarkE w w' K G l i e := by
  have hp' := phas_any h i
  obtain ⟨A, N, C, R, n, c, A', q, C', h1, h2, h3, h4, h5, h6, h7⟩ := h
  obtain ⟨c0, c1, c2, c3, c4, c5⟩ := h1.pt
  have hl := h6.1
  rw [splitL_len] at hl
  obtain ⟨hb, hhb⟩ : ∃ hb, hasB (cntG G l.length) i = hb := ⟨_, rfl⟩
  rw [hhb] at hp'
  have HB := Lib.hid hhb
  go_enter Tryz.func21, Tryz.ntmps21
  go_wp2_with fail
  refine hp'.mono ?_
  rintro e w1 ⟨rfl, hw1⟩
  subst hw1
  cases hb
  · clear hhb hl hp'
    go_wp2_with fail
    go_ret2
    exact ⟨.inr ⟨HB.out, rfl⟩, Below.refl _ _⟩
  · obtain ⟨k, rfl, hk⟩ := hasB_is hhb
    have hkq : k < q := by omega
    have hg := hp.gran_len' hk
    obtain ⟨b, off, u, rfl, hc, hu⟩ := h6.at k hkq
    rw [splitL_at hk] at hu
    obtain ⟨A2, L2, C2, rfl, g1, g2, g3, gs⟩ := hu
    have hgl := gs.1
    rw [hgl] at hg
    obtain ⟨b6, f6, u6', rfl, hcr, hur⟩ := gs.at 0 (by omega)
    have hg0 := gran_at (G := G) (l := l) (i := k) (k := 0) ([] : RowV) (by have := hp.nums.2.2.1.1; omega)
    rw [hg0] at hur
    rw [Nat.add_zero] at hur hcr
    obtain ⟨A3, L3, C3, rfl, r31, r32, r33, r34, r35⟩ := hur.1
    have hkG : k * G < l.length := (cnt_lt hp.nums.2.2.1.1).1 hk
    have hrl := hp.row_len (l.getD (k * G) []) (by
      have e : l.getD (k * G) [] = l[k * G] := by simp [List.getD, hkG]
      rw [e]; exact List.getElem_mem _)
    rw [r33] at hrl
    have hL64 : 1 ≤ L2 := hg.1
    have hL0 : (0 : Int) < (L2 : Int) := by omega
    have hki : (k : Int) < (q : Int) := by omega
    obtain ⟨rj, hrj⟩ : ∃ rj, l.getD (k * G) [] = rj := ⟨_, rfl⟩
    rw [hrj] at r34
    have HRJ := Lib.hid hrj
    have cc := key_any A N C K m (G : Int) A3 L3 C3 rj w1.drew (SV.below r34 (Below.refl _ _).drew) hrl.1 r31 (by omega)
    clear hhb hl hp' gs hg hgl hk hg0 hur r33 hkG hrj
    go_wp2_with fail
    refine wp_region_noPanic ?_
    refine region_g 15 (Ext (World.drew _)) (by kernel_rfl) (Ext.refl _) (fun hS => ?_)
    refine take_w (i := 0) (v := ?_) (some 10) rfl (by kernel_rfl) rfl (fun _ _ _ h => h) (Or.inl ⟨by rfl, ?_⟩) hS ?_
    rotate_left
    · (intro wq hq; go_simp); first | done | with_reducible rfl
    try simp only [Act.put, List.setIfInBounds_toArray, List.set_cons_zero, List.set_cons_succ]
    replace hS := Till.list 0 hS
    refine take_w (i := 5) (v := ?_) (some 15) rfl (by kernel_rfl) rfl (fun _ _ _ h => h) (Or.inl ⟨by rfl, ?_⟩) hS ?_
    rotate_left
    · (intro wq hq; go_simp); first | done | with_reducible rfl
    try simp only [Act.put, List.setIfInBounds_toArray, List.set_cons_zero, List.set_cons_succ]
    replace hS := Till.list 5 hS
    refine take_w (i := 9) (v := ?_) (some 19) rfl (by kernel_rfl) rfl (fun _ _ _ h => h) (Or.inl ⟨by rfl, ?_⟩) hS ?_
    rotate_left
    · (intro wq hq; go_simp); first | done | with_reducible rfl
    try simp only [Act.put, List.setIfInBounds_toArray, List.set_cons_zero, List.set_cons_succ]
    replace hS := Till.list 9 hS
    refine take_w (i := 1) (v := ?_) (some 11) rfl (by kernel_rfl) rfl (fun _ _ _ h => h) (Or.inl ⟨by rfl, ?_⟩) hS ?_
    rotate_left
    · (intro wq hq; go_simp); first | done | with_reducible rfl
    try simp only [Act.put, List.setIfInBounds_toArray, List.set_cons_zero, List.set_cons_succ]
    replace hS := Till.list 1 hS
    refine take_w (i := 6) (v := ?_) (some 16) rfl (by kernel_rfl) rfl (fun _ _ _ h => h) (Or.inl ⟨by rfl, ?_⟩) hS ?_
    rotate_left
    · (intro wq hq; go_simp); first | done | with_reducible rfl
    try simp only [Act.put, List.setIfInBounds_toArray, List.set_cons_zero, List.set_cons_succ]
    replace hS := Till.list 6 hS
    refine take_w (i := 2) (v := ?_) (some 12) rfl (by kernel_rfl) rfl (fun _ _ _ h => h) (Or.inl ⟨by rfl, ?_⟩) hS ?_
    rotate_left
    · (intro wq hq; go_simp); first | done | with_reducible rfl
    try simp only [Act.put, List.setIfInBounds_toArray, List.set_cons_zero, List.set_cons_succ]
    replace hS := Till.list 2 hS
    refine take_w (i := 7) (v := ?_) (some 17) rfl (by kernel_rfl) rfl (fun _ _ _ h => h) (Or.inl ⟨by rfl, ?_⟩) hS ?_
    rotate_left
    · (intro wq hq; go_simp); first | done | with_reducible rfl
    try simp only [Act.put, List.setIfInBounds_toArray, List.set_cons_zero, List.set_cons_succ]
    replace hS := Till.list 7 hS
    refine take_w (i := 3) (v := ?_) (some 13) rfl (by kernel_rfl) rfl (fun _ _ _ h => h) (Or.inl ⟨by rfl, ?_⟩) hS ?_
    rotate_left
    · (intro wq hq; go_simp); first | done | with_reducible rfl
    try simp only [Act.put, List.setIfInBounds_toArray, List.set_cons_zero, List.set_cons_succ]
    replace hS := Till.list 3 hS
    refine take_g (i := 8) (v := ?_) [14, 13, 12, 11, 10, 8] (some 18) rfl (by kernel_rfl) rfl (fun _ _ _ h => h) (Or.inl ⟨by rfl, ?_⟩) hS ?_
    rotate_left
    · (intro wq hq; have q0 := hq _ _ _ c0; have q1 := hq _ _ _ c1; have q2 := hq _ _ _ c2; have q3 := hq _ _ _ c3; have q4 := hq _ _ _ c5; have q5 := hq _ _ _ hc; have q6 := hq _ _ _ hcr; go_simp); first | done | with_reducible rfl
    try simp only [Act.put, List.setIfInBounds_toArray, List.set_cons_zero, List.set_cons_succ]
    replace hS := Till.list 8 hS
    refine take_g (i := 4) (v := ?_) [14, 4] (some 14) rfl (by kernel_rfl) rfl (fun _ _ _ h => h) (Or.inl ⟨by rfl, ?_⟩) hS ?_
    rotate_left
    · (intro wq hq; have q0 := hq _ _ _ c0; have q1 := hq _ _ _ c1; have q2 := hq _ _ _ c2; have q3 := hq _ _ _ c3; have q4 := hq _ _ _ c5; have q5 := hq _ _ _ hc; have q6 := hq _ _ _ hcr; go_simp); first | done | with_reducible rfl
    try simp only [Act.put, List.setIfInBounds_toArray, List.set_cons_zero, List.set_cons_succ]
    replace hS := Till.list 4 hS
    refine take_w (i := 10) (v := ?_) (some 20) rfl (by kernel_rfl) rfl (fun _ _ _ h => h) (Or.inl ⟨by rfl, ?_⟩) hS ?_
    rotate_left
    · (intro wq hq; go_simp); first | done | with_reducible rfl
    try simp only [Act.put, List.setIfInBounds_toArray, List.set_cons_zero, List.set_cons_succ]
    replace hS := Till.list 10 hS
    refine take_g (i := 11) (v := ?_) [14, 13, 12, 11] (some 21) rfl (by kernel_rfl) rfl (fun _ _ _ h => h) (Or.inl ⟨by rfl, ?_⟩) hS ?_
    rotate_left
    · (intro wq hq; have q0 := hq _ _ _ c0; have q1 := hq _ _ _ c1; have q2 := hq _ _ _ c2; have q3 := hq _ _ _ c3; have q4 := hq _ _ _ c5; have q5 := hq _ _ _ hc; have q6 := hq _ _ _ hcr; go_simp); first | done | with_reducible rfl
    try simp only [Act.put, List.setIfInBounds_toArray, List.set_cons_zero, List.set_cons_succ]
    replace hS := Till.list 11 hS
    refine take_g (i := 12) (v := .pointer (some ⟨b6, f6, none⟩)) [14, 13, 12] (some 22) rfl (by kernel_rfl) rfl (fun _ _ _ h => h) (Or.inl ⟨by rfl, ?_⟩) hS ?_
    · (intro wq hq; (go_simp; intro h; exfalso; omega))
    try simp only [Act.put, List.setIfInBounds_toArray, List.set_cons_zero, List.set_cons_succ]
    replace hS := Till.list 12 hS
    refine take_g (i := 13) (v := ?_) [14, 13] (some 23) rfl (by kernel_rfl) rfl (fun _ _ _ h => h) (Or.inl ⟨by rfl, ?_⟩) hS ?_
    rotate_left
    · (intro wq hq; have q0 := hq _ _ _ c0; have q1 := hq _ _ _ c1; have q2 := hq _ _ _ c2; have q3 := hq _ _ _ c3; have q4 := hq _ _ _ c5; have q5 := hq _ _ _ hc; have q6 := hq _ _ _ hcr; go_simp); first | done | with_reducible rfl
    try simp only [Act.put, List.setIfInBounds_toArray, List.set_cons_zero, List.set_cons_succ]
    replace hS := Till.list 13 hS
    refine ready_g (rs := [14]) (by kernel_rfl) (by simp) ?_
    refine AllReadyG.cons rfl (fun Kont hK => ?_) AllReadyG.nil
    go_simp
    refine cc.mono ?_
    rintro e w2 ⟨rfl, hb2⟩
    have hwb : Below w1.heap.size w1 w2 := (Below.refl w1.heap.size w1).drew.trans hb2
    have kv := WV.takes (SV.below r34 hwb) K hrl.1
    refine hK.out _ _ (Or.inr ((hS.get (by kernel_rfl)).trans (Ext.below hb2))) (fun hS0 => ?_)
    clear hK Kont
    try simp only [Act.put, List.setIfInBounds_toArray, List.set_cons_zero, List.set_cons_succ]
    clear hS
    have hS := hS0
    clear hS0
    refine ready_g (rs := [15]) (by kernel_rfl) (by simp) ?_
    refine AllReadyG.cons rfl (fun Kont hK => ?_) AllReadyG.nil
    go_simp
    refine (vclone_any A3 K K _ w2 kv (by omega)).mono ?_
    rintro e w3 ⟨v3, rfl, o3, hb3⟩
    refine hK.out _ _ (Or.inl (by kernel_rfl)) (fun hS0 => ?_)
    clear hK Kont
    try simp only [Act.put, List.setIfInBounds_toArray, List.set_cons_zero, List.set_cons_succ]
    clear hS
    have hS := hS0
    clear hS0
    refine take_w (i := 16) (v := ?_) (some 4) rfl (by kernel_rfl) rfl (fun _ _ _ h => h) (Or.inl ⟨by rfl, ?_⟩) hS ?_
    rotate_left
    · (intro wq hq; go_simp); first | done | with_reducible rfl
    try simp only [Act.put, List.setIfInBounds_toArray, List.set_cons_zero, List.set_cons_succ]
    replace hS := Till.list 16 hS
    refine take_w (i := 17) (v := ?_) (some 5) rfl (by kernel_rfl) rfl (fun _ _ _ h => h) (Or.inl ⟨by rfl, ?_⟩) hS ?_
    rotate_left
    · (intro wq hq; go_simp); first | done | with_reducible rfl
    try simp only [Act.put, List.setIfInBounds_toArray, List.set_cons_zero, List.set_cons_succ]
    replace hS := Till.list 17 hS
    refine done_g (by kernel_rfl) (NoPanic.normal ?_) _
    clear hS
    have hwc := Below.then hwb hb3
    have o4 := o3.lower hwb.size
    clear c0 c1 c2 c3 c4 c5 cc hc hcr o3 r34 kv hb2 hb3 hwb
    go_wp2_with fail
    go_ret2
    refine ⟨.inl ⟨HB.out, v3, rfl, ?_⟩, hwc⟩
    rw [Int.toNat_natCast, HRJ.out]
    exact o4
/-- what Schema tells -/
def SchE (w w' : World) (ts : List Int) (K : Nat) (m : Int) (G : Nat) (e : Ending) : Prop :=
  ∃ (A : Option Addr) (N C : Nat), e = .returned (SS A N C (K : Int) m (G : Int)) ∧ OS 1 w' w.heap.size (.slice A N C) N (icells ts) ∧ Below w.heap.size w w'
set_option maxHeartbeats 2000000 in
theorem pschema_any (h : PtM w p ts K m G l) (hp : PartOk ts K m G l) : Calls Tryz.prog 26 #[.pointer (some ⟨p, 0, none⟩)] w fun e w' => SchE w w' ts K m G e := by
  obtain ⟨A, N, C, R, n, c, A', q, C', h1, h2, h3, h4, h5, h6, h7⟩ := h
  have hb0 := Joins.below_alloc2 w (.cells nil4 24) (.cells #[.slice A N C, .int .i64 (K : Int), .int .i64 m, .int .i64 (G : Int)] 24)
  have t2 := (Bk.new w nil4 24).alloc (.cells #[.slice A N C, .int .i64 (K : Int), .int .i64 m, .int .i64 (G : Int)] 24)
  have t3 := Bk.new (w.alloc (.cells nil4 24)) #[.slice A N C, .int .i64 (K : Int), .int .i64 m, .int .i64 (G : Int)] 24
  rw [heap_alloc] at t3
  have hN : N ≤ 64 := by have := hp.nums.1.2; have := IV.len h2; omega
  obtain ⟨c0, c1, c2, c3, c4, c5⟩ := (h1.alloc (.cells nil4 24)).pt
  go_enter Tryz.func26, Tryz.ntmps26
  go_wp2_with fail
  clear c0 c1 c2 c3 c4 c5
  refine (iclone_any A N C (icells ts) _ (SV.below h2 hb0) (by omega)).mono ?_
  rintro e w1 ⟨v1, rfl, o1, hb1⟩
  have t2 := t2.below hb1
  have t3 := t3.below hb1
  have hw1 := Below.then hb0 hb1
  have o2 := o1.lower (show w.heap.size + 2 ≤ _ by rw [heap_alloc, heap_alloc]; omega)
  obtain ⟨a1, d1, rfl⟩ := o2.shape
  obtain ⟨x0, x1, x2, x3⟩ := t3.sx
  obtain ⟨d0, y1, y2, y3⟩ := t2.sx
  have e0 := t3.free 0
  have f0 := t2.free 0
  have f1 := t2.free 1
  have f2 := t2.free 2
  have f3 := t2.free 3
  have g0 := t3.set 0 (.slice a1 N d1)
  clear hb0 hb1 o1
  go_wp2_with fail
  have r := (t2.other (c := w.heap.size + 1) (i := 0) (by omega) (.slice a1 N d1)).put4 (.slice a1 N d1) (.int .i64 (K : Int)) (.int .i64 m) (.int .i64 (G : Int))
  have o5 := ((((o2.set (b := w.heap.size + 1) (i := 0) (by omega) (.slice a1 N d1)).set (b := w.heap.size) (i := 0) (by omega) (.slice a1 N d1)).set (b := w.heap.size) (i := 1) (by omega) (.int .i64 (K : Int))).set (b := w.heap.size) (i := 2) (by omega) (.int .i64 m)).set (b := w.heap.size) (i := 3) (by omega) (.int .i64 (G : Int))
  exact bodyPost_ret (res_ss rfl _ _ rfl r.sx) rfl ⟨a1, N, d1, rfl, o5.lower (by omega), ((((hw1.setCell (by simp) _).setCell (by simp) _).setCell (by simp) _).setCell (by simp) _).setCell (by simp) _⟩
end
end Go.Proofs.YtbfihajgjbpmaaaGreat
