/- Texts that belong together, one behind the other: Q9k. -/
import Derived.Test.YtbfihajgjbpmaaaGreatOrdE
/- Contracts of the document's own Below, Upto, Sorted. Rows that are shared: the cells that lead to them, and what they are. -/
namespace Go.Proofs.YtbfihajgjbpmaaaGreat
open Go.ChangeShapes Go.WideShapes Go.ChangeAt Go.RowKit
set_option linter.unusedVariables false
set_option maxRecDepth 4000

/-- a row's cell, and what it holds -/
abbrev P9 := Rw × RowV
abbrev p9 : P9 := ((none, 0, 0), [])
def pc (ps : List P9) : List Value := ps.map fun p => sV p.1
theorem pc_app (a b : List P9) : pc (a ++ b) = pc a ++ pc b := List.map_append
theorem pc_len (a : List P9) : (pc a).length = a.length := List.length_map _
theorem pc_one (a : List P9) : ∀ u ∈ pc a, u.oneCell' = true := by
  intro u hu
  obtain ⟨p, _, rfl⟩ := List.mem_map.1 hu
  rfl
theorem pc_at {a : List P9} {i : Nat} (h : i < a.length) : (pc a)[i]? = some (sV (a.getD i p9).1) := by
  simp [pc, List.getD, h]
/-- what these cells lead to -/
def PR (w : World) (ps : List P9) : Prop := ∀ p ∈ ps, RowAt w (sV p.1) p.2
theorem PR.below {w w' : World} {ps : List P9} (h : PR w ps) (hb : Below w.heap.size w w') : PR w' ps := fun p hp => (h p hp).below hb
theorem PR.at {w : World} {ps : List P9} (h : PR w ps) {i : Nat} (hi : i < ps.length) : RowAt w (sV (ps.getD i p9).1) (ps.getD i p9).2 := by
  have e : ps.getD i p9 = ps[i] := by simp [List.getD, hi]
  rw [e]; exact h _ (List.getElem_mem _)
theorem PR.app {w : World} {a b : List P9} (ha : PR w a) (hb : PR w b) : PR w (a ++ b) := fun p hp => (List.mem_append.1 hp).elim (ha p) (hb p)
theorem PR.take {w : World} {a : List P9} (ha : PR w a) (k : Nat) : PR w (a.take k) := fun p hp => ha p (List.mem_of_mem_take hp)
theorem PR.drop {w : World} {a : List P9} (ha : PR w a) (k : Nat) : PR w (a.drop k) := fun p hp => ha p (List.mem_of_mem_drop hp)
theorem RVs.pairs {w : World} {a : Option Addr} {n : Nat} {vss : List RowV} (h : RVs w a n vss) : ∃ qs : List P9, SV 1 w a n (pc qs) ∧ qs.map (·.2) = vss ∧ PR w qs := by
  obtain ⟨e, he⟩ := h.cells
  refine ⟨(List.range n).map fun i => (e i, vss.getD i []), ⟨by simp [pc], pc_one _, ?_⟩, ?_, ?_⟩
  · by_cases h0 : n = 0
    · exact .inl h0
    · obtain ⟨⟨b, off, rfl, -⟩, -⟩ := he 0 (by omega)
      refine .inr ⟨b, off, rfl, fun i u hi => ?_⟩
      have hin : i < n := by
        rcases Nat.lt_or_ge i n with h | h
        · exact h
        · rw [List.getElem?_eq_none (by simp [pc]; omega)] at hi; cases hi
      obtain ⟨⟨b', off', e1, hc⟩, -⟩ := he i hin
      cases e1
      simp [pc, hin] at hi
      rw [hc, ← hi]
  · rw [List.map_map]
    have := range_map vss []
    rw [h.1] at this
    exact this
  · intro p hp
    obtain ⟨i, hi, rfl⟩ := List.mem_map.1 hp
    exact (he i (List.mem_range.1 hi)).2
theorem RVs.of {w : World} {a : Option Addr} {n : Nat} {ps : List P9} (h : SV 1 w a n (pc ps)) (hp : PR w ps) : RVs w a n (ps.map (·.2)) := by
  have hl : ps.length = n := by have := h.1; rw [pc_len] at this; omega
  refine ⟨by rw [List.length_map, hl], ?_⟩
  rcases h.2.2 with h0 | ⟨b, off, rfl, hc⟩
  · exact .inl h0
  · refine .inr ⟨b, off, rfl, fun i hi => ⟨_, hc i _ (pc_at (by omega)), ?_⟩⟩
    have := hp.at (i := i) (by omega)
    have e : (ps.map (·.2)).getD i [] = (ps.getD i p9).2 := by simp [List.getD, show i < ps.length by omega]
    rw [e]; exact this
/-- the cell of one of them -/
theorem pc_cell {w : World} {a : Option Addr} {n : Nat} {ps : List P9} (h : SV 1 w a n (pc ps)) {i : Nat} (hi : i < n) : ∃ b off, a = some ⟨b, off, none⟩ ∧ w.cell? ⟨b, off + i, none⟩ = some (sV (ps.getD i p9).1) := by
  have hl : ps.length = n := by have := h.1; rw [pc_len] at this; omega
  rcases h.2.2 with h0 | ⟨b, off, rfl, hc⟩
  · omega
  · exact ⟨b, off, rfl, hc i _ (pc_at (by omega))⟩
theorem RgV.of {ts : List Int} {a : RowV} (h : FR ts a) : RgV a := by
  intro v hv
  obtain ⟨i, hi, rfl⟩ := List.mem_iff_getElem.1 hv
  have := (okR_get h.ok i (by rw [← h.len]; exact hi)).2.2
  simpa [List.getD, hi] using this
/-- so far none is above the next one -/
def SrtD (c : RowV → RowV → Int) (l : List RowV) (j : Nat) : Prop := ∀ i, i + 1 < j → c (l.getD i []) (l.getD (i + 1) []) ≤ 0
set_option maxHeartbeats 1000000 in
theorem r9sorted_any (A : Option Addr) (N C : Nat) (ts : List Int) (K : Nat) (m gg : Int) (R : Option Addr) (n c : Nat) (vss : List RowV) (w : World) (hv : IV w A N ts) (hN : N ≤ maxLen) (hK : K ≤ maxLen) (ht : Ty ts) (hr : RVs w R n vss) (hn : n ≤ 1000000) (hF : ∀ v ∈ vss, FR ts v) :
    Calls Tryz.prog 25 #[SS A N C K m gg, .slice R n c] w fun en w' => en = .returned (.bool (srtB (cN ts K) [] vss)) ∧ Below w.heap.size w w' := by
  have hl := Lib.hid hr.1
  have HF := Lib.hid hF
  have hx := Sx.new w A N C K m gg 24
  clear hF
  go_enter Tryz.func25, Tryz.ntmps25
  go_wp2_with fail
  go_loopw [5] (fun vi wr => ∃ (j : Nat), vi = .int .i64 (j : Int) ∧ (1 ≤ j ∧ (j ≤ n ∨ j = 1)) ∧ Hid (SrtD (cN ts K) vss j) ∧ Below (w.alloc (.cells #[.slice A N C, .int .i64 K, .int .i64 m, .int .i64 gg] 24)).heap.size (w.alloc (.cells #[.slice A N C, .int .i64 K, .int .i64 m, .int .i64 gg] 24)) wr) (fun vi _ => n - (intOf vi).toNat)
  case atStart => exact ⟨1, rfl, by omega, (fun i hi => by omega), Below.refl _ _⟩
  case round =>
    obtain ⟨j, rfl, hj, HS, hbel⟩ := hrel
    have hbw := after1 hbel
    by_cases hlt : j < n
    · have hji : (j : Int) < (n : Int) := by omega
      obtain ⟨q, hq⟩ : ∃ q, j - 1 = q := ⟨_, rfl⟩
      have w1 : IntKind.i64.wrap ((j : Int) - 1) = (q : Int) := by rw [IntKind.wrap_i64]; omega
      have w2 : IntKind.i64.wrap ((j : Int) + 1) = ((j + 1 : Nat) : Int) := by rw [IntKind.wrap_i64]; omega
      have hqn : q < n := by omega
      have HQ : Hid (j = q + 1) := by show j = q + 1; omega
      clear hq
      obtain ⟨c0, k1, k2, k3⟩ := hx.below hbel
      obtain ⟨b, off, A1, L1, C1, rfl, hc1, hL1, hw1⟩ := hr.at q hqn
      obtain ⟨_, _, A2, L2, C2, e', hc2, hL2, hw2⟩ := hr.at j hlt
      cases e'
      have hc1 := keepc hc1 hbw
      have hc2 := keepc hc2 hbw
      have f1 := fr_at HF.out (i := q) (by rw [hl.out]; exact hqn)
      have f2 := fr_at HF.out (i := j) (by rw [hl.out]; exact hlt)
      have cc := r4compare_any A N C ts K m gg A1 L1 C1 _ A2 L2 C2 _ wr.drew (hv.below hbw.drew) hN (hw1.below hbw.drew) hL1 (hw2.below hbw.drew) hL2 hK (RgV.of f1) (RgV.of f2)
      rw [← cN_ok K f1 f2] at cc
      obtain ⟨r, hcr⟩ : ∃ r, cN ts K (vss.getD q []) (vss.getD j []) = r := ⟨_, rfl⟩
      rw [hcr] at cc
      have HR := Lib.hid hcr
      clear hcr f1 f2 hw1 hw2
      go_wp2_with fail
      refine wp_region_noPanic ?_
      refine region_g 10 (Ext (World.drew _)) (by kernel_rfl) (Ext.refl _) (fun hS => ?_)
      refine take_g (i := 0) (v := ?_) [0] (some 12) rfl (by kernel_rfl) rfl (fun _ _ _ h => h) (Or.inl ⟨by rfl, ?_⟩) hS ?_
      rotate_left
      · (intro wq hq; have q0 := hq _ _ _ c0; have q1 := hq _ _ _ k1; have q2 := hq _ _ _ k2; have q3 := hq _ _ _ k3; have q4 := hq _ _ _ hc1; have q5 := hq _ _ _ hc2; go_simp); first | done | with_reducible rfl
      try simp only [Act.put, List.setIfInBounds_toArray, List.set_cons_zero, List.set_cons_succ]
      replace hS := Till.list 0 hS
      refine take_w (i := 1) (v := ?_) (some 13) rfl (by kernel_rfl) rfl (fun _ _ _ h => h) (Or.inl ⟨by rfl, ?_⟩) hS ?_
      rotate_left
      · (intro wq hq; go_simp); first | done | with_reducible rfl
      try simp only [Act.put, List.setIfInBounds_toArray, List.set_cons_zero, List.set_cons_succ]
      replace hS := Till.list 1 hS
      refine take_w (i := 2) (v := ?_) (some 14) rfl (by kernel_rfl) rfl (fun _ _ _ h => h) (Or.inl ⟨by rfl, ?_⟩) hS ?_
      rotate_left
      · (intro wq hq; go_simp); first | done | with_reducible rfl
      try simp only [Act.put, List.setIfInBounds_toArray, List.set_cons_zero, List.set_cons_succ]
      replace hS := Till.list 2 hS
      refine take_w (i := 6) (v := ?_) (some 18) rfl (by kernel_rfl) rfl (fun _ _ _ h => h) (Or.inl ⟨by rfl, ?_⟩) hS ?_
      rotate_left
      · (intro wq hq; go_simp); first | done | with_reducible rfl
      try simp only [Act.put, List.setIfInBounds_toArray, List.set_cons_zero, List.set_cons_succ]
      replace hS := Till.list 6 hS
      refine take_w (i := 7) (v := ?_) (some 19) rfl (by kernel_rfl) rfl (fun _ _ _ h => h) (Or.inl ⟨by rfl, ?_⟩) hS ?_
      rotate_left
      · (intro wq hq; go_simp); first | done | with_reducible rfl
      try simp only [Act.put, List.setIfInBounds_toArray, List.set_cons_zero, List.set_cons_succ]
      replace hS := Till.list 7 hS
      refine take_w (i := 3) (v := ?_) (some 15) rfl (by kernel_rfl) rfl (fun _ _ _ h => h) (Or.inl ⟨by rfl, ?_⟩) hS ?_
      rotate_left
      · (intro wq hq; go_simp); first | done | with_reducible rfl
      try simp only [Act.put, List.setIfInBounds_toArray, List.set_cons_zero, List.set_cons_succ]
      replace hS := Till.list 3 hS
      refine take_w (i := 8) (v := ?_) (some 20) rfl (by kernel_rfl) rfl (fun _ _ _ h => h) (Or.inl ⟨by rfl, ?_⟩) hS ?_
      rotate_left
      · (intro wq hq; go_simp); first | done | with_reducible rfl
      try simp only [Act.put, List.setIfInBounds_toArray, List.set_cons_zero, List.set_cons_succ]
      replace hS := Till.list 8 hS
      refine take_w (i := 4) (v := ?_) (some 16) rfl (by kernel_rfl) rfl (fun _ _ _ h => h) (Or.inl ⟨by rfl, ?_⟩) hS ?_
      rotate_left
      · (intro wq hq; go_simp); first | done | with_reducible rfl
      try simp only [Act.put, List.setIfInBounds_toArray, List.set_cons_zero, List.set_cons_succ]
      replace hS := Till.list 4 hS
      refine take_g (i := 9) (v := ?_) [9] (some 21) rfl (by kernel_rfl) rfl (fun _ _ _ h => h) (Or.inl ⟨by rfl, ?_⟩) hS ?_
      rotate_left
      · (intro wq hq; have q0 := hq _ _ _ c0; have q1 := hq _ _ _ k1; have q2 := hq _ _ _ k2; have q3 := hq _ _ _ k3; have q4 := hq _ _ _ hc1; have q5 := hq _ _ _ hc2; go_simp); first | done | with_reducible rfl
      try simp only [Act.put, List.setIfInBounds_toArray, List.set_cons_zero, List.set_cons_succ]
      replace hS := Till.list 9 hS
      refine take_g (i := 5) (v := ?_) [5] (some 17) rfl (by kernel_rfl) rfl (fun _ _ _ h => h) (Or.inl ⟨by rfl, ?_⟩) hS ?_
      rotate_left
      · (intro wq hq; have q0 := hq _ _ _ c0; have q1 := hq _ _ _ k1; have q2 := hq _ _ _ k2; have q3 := hq _ _ _ k3; have q4 := hq _ _ _ hc1; have q5 := hq _ _ _ hc2; go_simp); first | done | with_reducible rfl
      try simp only [Act.put, List.setIfInBounds_toArray, List.set_cons_zero, List.set_cons_succ]
      replace hS := Till.list 5 hS
      refine ready_g (rs := [10]) (by kernel_rfl) (by simp) ?_
      refine AllReadyG.cons rfl (fun Kont hK => ?_) AllReadyG.nil
      go_simp
      refine cc.mono ?_
      rintro en w' ⟨rfl, hb'⟩
      refine hK.out _ _ (Or.inl (by kernel_rfl)) (fun hS0 => ?_)
      clear hK Kont
      try simp only [Act.put, List.setIfInBounds_toArray, List.set_cons_zero, List.set_cons_succ]
      clear hS
      have hS := hS0
      clear hS0
      refine take_w (i := 11) (v := ?_) (some 23) rfl (by kernel_rfl) rfl (fun _ _ _ h => h) (Or.inl ⟨by rfl, ?_⟩) hS ?_
      rotate_left
      · (intro wq hq; go_simp); first | done | with_reducible rfl
      try simp only [Act.put, List.setIfInBounds_toArray, List.set_cons_zero, List.set_cons_succ]
      replace hS := Till.list 11 hS
      refine done_g (by kernel_rfl) (NoPanic.normal ?_) _
      clear hS
      have hb2 := Below.then hbel.drew hb'
      clear hb' hbw cc hc1 hc2 hbel c0 k1 k2 k3
      cases hd : decide (0 < r)
      · have hr0 := of_decide_eq_false hd
        have HS2 : Hid (SrtD (cN ts K) vss (j + 1)) := fun i hi => by
          by_cases e : i + 1 < j
          · exact HS.out i e
          · obtain rfl : i = q := by have := HQ.out; omega
            have e1 := HR.out
            rw [HQ.out] at e1
            rw [e1]; omega
        have hd' : decide (r ≤ 0) = true := decide_eq_true (by omega)
        clear hr0 hd'
        go_wp2_with fail
        go_roundw
        case rel => exact ⟨j + 1, by go_num, by omega, HS2, hb2⟩
        case measure => simp [intOf]; omega
      · have hr0 := of_decide_eq_true hd
        have HT : Hid (srtB (cN ts K) [] vss = false) := SrtP.not (j := q) (by have e1 := HR.out; rw [HQ.out] at e1; rw [e1]; omega) (by have := HQ.out; rw [hl.out]; omega)
        clear hd
        go_wp2_with fail
        go_ret
        exact ⟨by rw [HT.out]; rfl, after1 hb2⟩
    · have hji : ¬ (j : Int) < (n : Int) := by omega
      have HT : Hid (srtB (cN ts K) [] vss = true) := decide_eq_true (fun i hi => HS.out i (by rw [hl.out] at hi; omega))
      go_wp2_with fail
      go_ret
      exact ⟨by rw [HT.out]; rfl, hbw⟩
end Go.Proofs.YtbfihajgjbpmaaaGreat
