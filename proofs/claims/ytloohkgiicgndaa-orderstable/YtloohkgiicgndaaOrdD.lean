/- Texts that belong together, one behind the other: Q9g, Q9h, Q9i. -/
import Derived.Test.YtloohkgiicgndaaOrdC
import Derived.Test.YtloohkgiicgndaaOrdA
import Derived.Laws.CopyOwn
import Derived.Test.YtloohkgiicgndaaSchC
/- Contracts of order.Sort and order.Sorted. -/
namespace Go.Proofs.Ytloohkgiicgndaa
open Go.ChangeShapes Go.WideShapes Go.ChangeAt Go.RowKit
set_option linter.unusedVariables false
set_option maxRecDepth 4000

theorem RVs.cells {w : World} {a : Option Addr} {n : Nat} {vss : List RowV} (h : RVs w a n vss) : ∃ e : Nat → Rw, ∀ i, i < n → (∃ b off, a = some ⟨b, off, none⟩ ∧ w.cell? ⟨b, off + i, none⟩ = some (sV (e i))) ∧ RowAt w (sV (e i)) (vss.getD i []) := by
  have : ∀ i, ∃ q : Rw, i < n → (∃ b off, a = some ⟨b, off, none⟩ ∧ w.cell? ⟨b, off + i, none⟩ = some (sV q)) ∧ RowAt w (sV q) (vss.getD i []) := fun i => by
    by_cases hi : i < n
    · obtain ⟨h1, h2⟩ := h
      rcases h2 with h2 | ⟨b, off, rfl, hr⟩
      · omega
      · obtain ⟨v, e1, e2⟩ := hr i hi
        obtain ⟨A, L, C, rfl, q⟩ := id e2
        exact ⟨(A, L, C), fun _ => ⟨⟨b, off, rfl, e1⟩, e2⟩⟩
    · exact ⟨(none, 0, 0), fun h => absurd h hi⟩
  exact ⟨fun i => (this i).choose, fun i => (this i).choose_spec⟩
theorem madeCells_row (n : Nat) : madeCells #[Value.slice none 0 0] n = (List.replicate n (Value.slice none 0 0)).toArray := by
  refine Array.ext' ?_
  simp [madeCells]
  refine List.ext_getElem (by simp) (fun i h1 h2 => ?_)
  simp [Nat.mod_one]
theorem make_rows (N : Nat) (h : N ≤ 1000000) (w : World) : (Instr.makeSlice 25 (.int .i64 (N : Int)) (.int .i64 (N : Int))).run Try.prog w = .ok (.slice (some ⟨w.heap.size, 0, none⟩) N N) (w.alloc (.cells (List.replicate N (Value.slice none 0 0)).toArray 27)) := by
  have := run_make_row' (P := Try.prog) 25 27 (.slice none 0 0) 24 Try.underlying25 (by kernel_rfl) rfl .i64 .i64 N (by omega) (by omega) w
  rw [madeCells_row] at this
  exact this
set_option maxHeartbeats 1000000 in
theorem by1_any (sb : Nat) (A : Option Addr) (N C : Nat) (ts : List Int) (K : Nat) (m gg : Int) (R1 : Option Addr) (n1 c1 : Nat) (u1 : RowV) (R2 : Option Addr) (n2 c2 : Nat) (u2 : RowV) (w : World) (hx : Sx w sb A N C K m gg)
    (hv : IV w A N ts) (hN : N ≤ maxLen) (ha : WV w R1 n1 u1) (hna : n1 ≤ maxLen) (hb : WV w R2 n2 u2) (hnb : n2 ≤ maxLen) (hK : K ≤ maxLen) :
    Calls Try.prog 32 #[.slice R1 n1 c1, .slice R2 n2 c2, .pointer (some ⟨sb, 0, none⟩)] w fun e w' => e = .returned (.int .i64 (cR (ts.take K) u1 u2)) ∧ Below w.heap.size w w' := by
  obtain ⟨x0, x1, x2, x3⟩ := hx
  obtain ⟨q, hq⟩ : ∃ q, cR (ts.take K) u1 u2 = q := ⟨_, rfl⟩
  rw [hq]
  have HQ := Lib.hid hq
  clear hq
  go_enter Try.func32, Try.ntmps32
  go_wp2_with fail
  refine (scompare_any A N C ts K m gg R1 n1 c1 u1 R2 n2 c2 u2 _ hv hN ha hna hb hnb hK).mono ?_
  rw [HQ.out]
  rintro e w1 ⟨rfl, h⟩
  go_wp2_with fail
  go_ret
  exact ⟨rfl, h⟩
theorem oby_any (A : Option Addr) (N C : Nat) (K : Nat) (m gg : Int) (w : World) :
    Calls Try.prog 25 #[SS A N C K m gg] w fun e w' => e = .returned (FV (.pointer (some ⟨w.heap.size, 0, none⟩))) ∧ w' = w.alloc (.cells #[.slice A N C, .int .i64 K, .int .i64 m, .int .i64 gg] 31) := by
  go_enter Try.func25, Try.ntmps25
  go_wp2_with fail
  go_ret
  exact ⟨rfl, rfl⟩
/-- rows of the list, and one that may be for all others -/
def rowF (ts : List Int) (vss : List RowV) (i : Nat) : RowV := vss.getD i []
/-- the function that holds rows against each other, while block g is written -/
theorem cmpG_of {wb w0 : World} {g n sb : Nat} {A : Option Addr} {N C K : Nat} {m gg : Int} {ts : List Int} {e : Nat → Rw} {vss : List RowV} (hb : Below wb.heap.size wb w0) (hg : wb.heap.size ≤ g) (hx : Sx w0 sb A N C K m gg) (hs : sb ≠ g) (hv : IV wb A N ts) (hN : N ≤ maxLen) (hK : K ≤ maxLen) (hl : vss.length = n) (hr : ∀ i, i < n → RowAt wb (sV (e i)) (vss.getD i [])) (hF : ∀ v ∈ vss, FR ts v) :
    CmpG w0 g n e (.pointer (some ⟨sb, 0, none⟩)) (fun i j => cN ts K (vss.getD i []) (vss.getD j [])) := by
  intro w hk i j hi hj
  have hbw : Below wb.heap.size wb w := ⟨hk.os.trans hb.os, hk.tape.trans hb.tape, hk.output.trans hb.output, Nat.le_trans hb.size hk.size, fun k hk' => (hk.block k (by have := hb.size; omega) (by show k ≠ g; omega)).trans (hb.block k hk')⟩
  have hx' : Sx w sb A N C K m gg := by
    obtain ⟨x0, x1, x2, x3⟩ := hx
    exact ⟨hk.cell x0 hs, hk.cell x1 hs, hk.cell x2 hs, hk.cell x3 hs⟩
  have fr : ∀ i, i < n → FR ts (vss.getD i []) := fun i hi => by
    have e : vss.getD i [] = vss[i]'(by omega) := by simp [List.getD, show i < vss.length by omega]
    rw [e]; exact hF _ (List.getElem_mem _)
  obtain ⟨_, _, _, h1, a1, a2, a3, a4, -⟩ := (hr i hi).below hbw
  cases h1
  obtain ⟨_, _, _, h2, b1, b2, b3, b4, -⟩ := (hr j hj).below hbw
  cases h2
  have := by1_any sb A N C ts K m gg _ _ (e i).2.2 _ _ _ (e j).2.2 _ w hx' (hv.below hbw) hN a4 (by omega) b4 (by omega) hK
  rw [← cN_ok K (fr i hi) (fr j hj)] at this
  exact this
theorem info9r : (Try.prog.info? 27).map (·.size) = some 1 := by kernel_rfl
set_option maxHeartbeats 2000000 in
theorem osort_any (A : Option Addr) (N C : Nat) (ts : List Int) (K : Nat) (m gg : Int) (R : Option Addr) (n c : Nat) (vss : List RowV) (w : World) (hv : IV w A N ts) (hN : N ≤ maxLen) (hK : K ≤ maxLen) (ht : Ty ts) (hr : RVs w R n vss) (hn : n ≤ 1000000) (hF : ∀ v ∈ vss, FR ts v) :
    Calls Try.prog 12 #[SS A N C K m gg, .slice R n c] w fun en w' => ∃ g, en = .returned (.slice (some ⟨g, 0, none⟩) n n) ∧ RVs w' (some ⟨g, 0, none⟩) n (sortA (cN ts K) vss) ∧ w.heap.size ≤ g ∧ Below w.heap.size w w' := by
  obtain ⟨e, he⟩ := hr.cells
  have hlen := Lib.hid hr.1
  have HE := Lib.hid he
  have hmk := make_rows n hn
  have hx := (Sx.new w A N C K m gg 31).alloc (.cells (List.replicate n (Value.slice none 0 0)).toArray 27)
  have hgn := heap_alloc_new (w.alloc (.cells #[.slice A N C, .int .i64 K, .int .i64 m, .int .i64 gg] 31)) (.cells (List.replicate n (Value.slice none 0 0)).toArray 27)
  rw [heap_alloc] at hgn
  have hb0 := Joins.below_alloc2 w (.cells #[.slice A N C, .int .i64 K, .int .i64 m, .int .i64 gg] 31) (.cells (List.replicate n (Value.slice none 0 0)).toArray 27)
  obtain ⟨cs, hcs⟩ : ∃ cs : List Value, (List.range n).map (fun i => sV (e i)) = cs := ⟨_, rfl⟩
  have hcl : cs.length = n := by rw [← hcs]; simp
  have c1 : cs.length = Nat.min n n := by rw [hcl]; exact (Nat.min_self n).symm
  have c2 : 0 < cs.length → (some (⟨w.heap.size + 1, 0, none⟩ : Addr)) = some ⟨w.heap.size + 1, 0, none⟩ ∧ ∃ ad, R = some ad ∧ ∀ j v, cs[j]? = some v → ((w.alloc (.cells #[.slice A N C, .int .i64 K, .int .i64 m, .int .i64 gg] 31)).alloc (.cells (List.replicate n (Value.slice none 0 0)).toArray 27)).cell? (ad.add j) = some v := by
    intro h0
    refine ⟨rfl, ?_⟩
    obtain ⟨⟨b, off, rfl, -⟩, -⟩ := he 0 (by omega)
    refine ⟨_, rfl, fun j v hj => ?_⟩
    have hjn : j < n := by
      rcases Nat.lt_or_ge j n with h | h
      · exact h
      · rw [List.getElem?_eq_none (by omega)] at hj; cases hj
    obtain ⟨⟨b', off', e1, hc⟩, -⟩ := he j hjn
    cases e1
    have ha : (⟨b, off, none⟩ : Addr).add j = ⟨b, off + j, none⟩ := by unfold Addr.add; split <;> simp_all
    rw [ha]
    rw [← hcs] at hj
    simp [hjn] at hj
    rw [← hj]
    exact cell_alloc _ _ (cell_alloc _ _ hc)
  have c3 : 0 + cs.length ≤ (List.replicate n (Value.slice none 0 0)).length := by rw [hcl, List.length_replicate]; omega
  have c4 : ∀ v ∈ cs, v.oneCell' = true := by
    intro v hv
    rw [← hcs] at hv
    obtain ⟨i, _, rfl⟩ := List.mem_map.1 hv
    rfl
  have c5 : splice (List.replicate n (Value.slice none 0 0)) 0 cs = cs := by
    unfold splice; simp [hcl]
  have C1 := Lib.hid c1; have C2 := Lib.hid c2; have C5 := Lib.hid c5; have HCS := Lib.hid hcs; have HCL := Lib.hid hcl
  clear c1 c2 c5 hcs he hcl
  go_enter Try.func12, Try.ntmps12
  go_wp2_with (refine wpList_copy_splice rfl (.tmp 9) (.tmp 10) 25 25 rfl 27 Try.underlying25 info9r (some ⟨w.heap.size + 1, 0, none⟩) R n n n c rfl rfl (w.heap.size + 1) 0 _ 27 hgn cs C1.out C2.out c3 c4 (w.heap.size + 1) _ (Below.refl _ _) (Nat.le_refl _) ?_; intro w1 hrow hbel; have HROW : Bk w1 (w.heap.size + 1) (rowsA e n (fun i => i)) 27 := (by have := hrow.out; rw [C5.out, ← HCS.out] at this; exact this); obtain ⟨x0, x1, x2, x3⟩ := hx.low hbel (by omega); have hb1 := hb0.trans (hbel.mono (by omega)); clear hrow hmk hgn hbel C1 C2 c3 c4 hb0)
  clear x0 x1 x2 x3
  refine (oby_any A N C K m gg _).mono ?_
  rintro en w2 ⟨rfl, rfl⟩
  have hx2 := Sx.new w1 A N C K m gg 31
  have hb2 := hb1.alloc hb1.size (.cells #[.slice A N C, .int .i64 K, .int .i64 m, .int .i64 gg] 31)
  have hrow := HROW.alloc (.cells #[.slice A N C, .int .i64 K, .int .i64 m, .int .i64 gg] 31)
  have hsg := HROW.lt
  have hrow0 := fun i hi => (HE.out i hi).2
  have hcm := cmpG_of hb2 (show w.heap.size ≤ w.heap.size + 1 by omega) hx2 (by omega) hv hN hK hlen.out hrow0 hF
  have HC := Lib.hid hcm
  clear hb1 HROW hx2 hcm hrow0
  go_wp2_with fail
  generalize w1.alloc (.cells #[.slice A N C, .int .i64 K, .int .i64 m, .int .i64 gg] 31) = w2 at *
  refine (sortstable_any w2 (w.heap.size + 1) n e _ _ HC.out ((cN_ord ht K).n _) (by unfold maxN; omega) (fun i => i) (StA.id _ _) _ ⟨Kp.refl _ _, hrow⟩).mono ?_
  rintro en w3 ⟨rfl, t, ht2, h3⟩
  have HT := Lib.hid ht2
  clear ht2 hrow HC
  go_wp2_with fail
  go_ret
  have hb3 : Below w.heap.size w w3 := hb2.trans ⟨h3.kp.os, h3.kp.tape, h3.kp.output, h3.kp.size, fun k hk => h3.kp.block k (by have := hb2.size; omega) (by show k ≠ _; omega)⟩
  refine ⟨_, rfl, ?_, by omega, hb3⟩
  have hs := sorted_is (cN_ord ht K) vss [] t (by rw [hlen.out]; exact HT.out.1) (by rw [hlen.out]; exact HT.out.2)
  rw [hlen.out] at hs
  rw [← hs]
  refine ⟨by simp, .inr ⟨_, 0, rfl, fun i hi => ⟨sV (e (t i)), ?_, ?_⟩⟩⟩
  · rw [Nat.zero_add]; exact h3.bk.cell i (rowsA_at hi)
  · have := (HE.out (t i) (HT.out.1.low i hi)).2.below hb3
    simpa [List.getD, hi] using this
end Go.Proofs.Ytloohkgiicgndaa
/- Contract of order.Sorted. -/
namespace Go.Proofs.Ytloohkgiicgndaa
open Go.ChangeShapes Go.WideShapes Go.ChangeAt Go.RowKit
set_option linter.unusedVariables false
set_option maxRecDepth 4000

theorem fr_at {ts : List Int} {vss : List RowV} (hF : ∀ v ∈ vss, FR ts v) {i : Nat} (hi : i < vss.length) : FR ts (vss.getD i []) := by
  have e : vss.getD i [] = vss[i] := by simp [List.getD, hi]
  rw [e]; exact hF _ (List.getElem_mem _)
/-- so far none is above the next one -/
def SrtP (c : RowV → RowV → Int) (l : List RowV) (j : Nat) : Prop := ∀ i, j ≤ i → i < l.length - 1 → c (l.getD i []) (l.getD (i + 1) []) ≤ 0
theorem SrtP.all {c : RowV → RowV → Int} {l : List RowV} (h : SrtP c l 0) : srtB c [] l = true := decide_eq_true (fun i hi => h i (Nat.zero_le _) hi)
theorem SrtP.not {c : RowV → RowV → Int} {l : List RowV} {j : Nat} (h : 0 < c (l.getD j []) (l.getD (j + 1) [])) (hj : j < l.length - 1) : srtB c [] l = false := decide_eq_false (fun q => by have := q j hj; omega)
theorem SrtP.step {c : RowV → RowV → Int} {l : List RowV} {j : Nat} (h : SrtP c l (j + 1)) (h1 : c (l.getD j []) (l.getD (j + 1) []) ≤ 0) : SrtP c l j := fun i h2 h3 => by
  by_cases e : i = j
  · subst e; exact h1
  · exact h i (by omega) h3
set_option maxHeartbeats 1000000 in
theorem issorted_any (sb : Nat) (A : Option Addr) (N C : Nat) (ts : List Int) (K : Nat) (m gg : Int) (R : Option Addr) (n c : Nat) (vss : List RowV) (w : World) (hx : Sx w sb A N C K m gg) (hv : IV w A N ts) (hN : N ≤ maxLen) (hK : K ≤ maxLen) (ht : Ty ts) (hr : RVs w R n vss) (hn : n ≤ 1000000) (hF : ∀ v ∈ vss, FR ts v) :
    Calls Try.prog 26 #[.slice R n c, FV (.pointer (some ⟨sb, 0, none⟩))] w fun en w' => en = .returned (.bool (srtB (cN ts K) [] vss)) ∧ Below w.heap.size w w' := by
  have hl := Lib.hid hr.1
  have HF := Lib.hid hF
  clear hF
  by_cases h0 : n = 0
  · subst h0
    have w1 : IntKind.i64.wrap ((0 : Int) - 1) = -1 := by rw [IntKind.wrap_i64]; omega
    have HT : Hid (srtB (cN ts K) [] vss = true) := SrtP.all (fun i h1 h2 => by have := hl.out; omega)
    go_enter Try.func26, Try.ntmps26
    go_wp2_with fail
    go_loopw [5] (fun vi wr => vi = .int .i64 (-1) ∧ wr = w) (fun _ _ => 0)
    case atStart => exact ⟨rfl, rfl⟩
    case round =>
      obtain ⟨rfl, rfl⟩ := hrel
      go_wp2_with fail
      go_ret
      exact ⟨by rw [HT.out]; rfl, Below.refl _ _⟩
  · obtain ⟨p0, hp0⟩ : ∃ p, n - 1 = p := ⟨_, rfl⟩
    have w1 : IntKind.i64.wrap ((n : Int) - 1) = (p0 : Int) := by rw [IntKind.wrap_i64]; omega
    have hpn : p0 < n := by omega
    have HS : Hid (SrtP (cN ts K) vss p0) := fun i h1 h2 => by have := hl.out; omega
    clear hp0
    go_enter Try.func26, Try.ntmps26
    go_wp2_with fail
    clear w1
    go_loopw [5] (fun vi wr => ∃ p : Nat, vi = .int .i64 (p : Int) ∧ p < n ∧ Hid (SrtP (cN ts K) vss p) ∧ Below w.heap.size w wr) (fun vi _ => (intOf vi).toNat)
    case atStart => exact ⟨p0, rfl, hpn, HS, Below.refl _ _⟩
    case round =>
      clear HS hpn
      obtain ⟨p, rfl, hp, HS, hbw⟩ := hrel
      by_cases hpp : 0 < p
      · have hpi : (0 : Int) < (p : Int) := by omega
        obtain ⟨q, hq⟩ : ∃ q, p - 1 = q := ⟨_, rfl⟩
        have w1 : IntKind.i64.wrap ((p : Int) - 1) = (q : Int) := by rw [IntKind.wrap_i64]; omega
        have hqn : q < n := by omega
        have hqp : p = q + 1 := by omega
        obtain ⟨b, off, A1, L1, C1, rfl, hc1, hL1, hw1⟩ := hr.at p hp
        obtain ⟨_, _, A2, L2, C2, e', hc2, hL2, hw2⟩ := hr.at q hqn
        cases e'
        have hc1 := keepc hc1 hbw
        have hc2 := keepc hc2 hbw
        have cc := by1_any sb A N C ts K m gg A1 L1 C1 _ A2 L2 C2 _ wr.drew (hx.below hbw.drew) (hv.below hbw.drew) hN (hw1.below hbw.drew) hL1 (hw2.below hbw.drew) hL2 hK
        have f1 := fr_at HF.out (i := p) (by rw [hl.out]; exact hp)
        have f2 := fr_at HF.out (i := q) (by rw [hl.out]; exact hqn)
        rw [← cN_ok K f1 f2] at cc
        obtain ⟨r, hcr⟩ : ∃ r, cN ts K (vss.getD p []) (vss.getD q []) = r := ⟨_, rfl⟩
        have hneg := (cN_ord ht K).neg (vss.getD p []) (vss.getD q [])
        rw [hcr] at cc hneg
        rw [hqp] at hneg
        have HR : Hid (cN ts K (vss.getD q []) (vss.getD (q + 1) []) = -r) := hneg
        have HQ := Lib.hid hqp
        clear hcr hneg f1 f2 hw1 hw2 hq hqp
        go_wp2_with fail
        refine wp_region_noPanic ?_
        refine region_g 10 (Ext (World.drew _)) (by kernel_rfl) (Ext.refl _) (fun hS => ?_)
        refine take_w (i := 0) (v := ?_) (some 13) rfl (by kernel_rfl) rfl (fun _ _ _ h => h) (Or.inl ⟨by rfl, ?_⟩) hS ?_
        rotate_left
        · (intro wq hq; go_simp); first | done | with_reducible rfl
        try simp only [Act.put, List.setIfInBounds_toArray, List.set_cons_zero, List.set_cons_succ]
        replace hS := Till.list 0 hS
        refine take_w (i := 1) (v := ?_) (some 14) rfl (by kernel_rfl) rfl (fun _ _ _ h => h) (Or.inl ⟨by rfl, ?_⟩) hS ?_
        rotate_left
        · (intro wq hq; go_simp); first | done | with_reducible rfl
        try simp only [Act.put, List.setIfInBounds_toArray, List.set_cons_zero, List.set_cons_succ]
        replace hS := Till.list 1 hS
        refine take_w (i := 2) (v := ?_) (some 15) rfl (by kernel_rfl) rfl (fun _ _ _ h => h) (Or.inl ⟨by rfl, ?_⟩) hS ?_
        rotate_left
        · (intro wq hq; go_simp); first | done | with_reducible rfl
        try simp only [Act.put, List.setIfInBounds_toArray, List.set_cons_zero, List.set_cons_succ]
        replace hS := Till.list 2 hS
        refine take_w (i := 5) (v := ?_) (some 18) rfl (by kernel_rfl) rfl (fun _ _ _ h => h) (Or.inl ⟨by rfl, ?_⟩) hS ?_
        rotate_left
        · (intro wq hq; go_simp); first | done | with_reducible rfl
        try simp only [Act.put, List.setIfInBounds_toArray, List.set_cons_zero, List.set_cons_succ]
        replace hS := Till.list 5 hS
        refine take_w (i := 6) (v := ?_) (some 19) rfl (by kernel_rfl) rfl (fun _ _ _ h => h) (Or.inl ⟨by rfl, ?_⟩) hS ?_
        rotate_left
        · (intro wq hq; go_simp); first | done | with_reducible rfl
        try simp only [Act.put, List.setIfInBounds_toArray, List.set_cons_zero, List.set_cons_succ]
        replace hS := Till.list 6 hS
        refine take_w (i := 3) (v := ?_) (some 16) rfl (by kernel_rfl) rfl (fun _ _ _ h => h) (Or.inl ⟨by rfl, ?_⟩) hS ?_
        rotate_left
        · (intro wq hq; go_simp); first | done | with_reducible rfl
        try simp only [Act.put, List.setIfInBounds_toArray, List.set_cons_zero, List.set_cons_succ]
        replace hS := Till.list 3 hS
        refine take_w (i := 7) (v := ?_) (some 20) rfl (by kernel_rfl) rfl (fun _ _ _ h => h) (Or.inl ⟨by rfl, ?_⟩) hS ?_
        rotate_left
        · (intro wq hq; go_simp); first | done | with_reducible rfl
        try simp only [Act.put, List.setIfInBounds_toArray, List.set_cons_zero, List.set_cons_succ]
        replace hS := Till.list 7 hS
        refine take_g (i := 4) (v := ?_) [4] (some 17) rfl (by kernel_rfl) rfl (fun _ _ _ h => h) (Or.inl ⟨by rfl, ?_⟩) hS ?_
        rotate_left
        · (intro wq hq; have q0 := hq _ _ _ hc1; have q1 := hq _ _ _ hc2; go_simp); first | done | with_reducible rfl
        try simp only [Act.put, List.setIfInBounds_toArray, List.set_cons_zero, List.set_cons_succ]
        replace hS := Till.list 4 hS
        refine take_w (i := 8) (v := ?_) (some 21) rfl (by kernel_rfl) rfl (fun _ _ _ h => h) (Or.inl ⟨by rfl, ?_⟩) hS ?_
        rotate_left
        · (intro wq hq; go_simp); first | done | with_reducible rfl
        try simp only [Act.put, List.setIfInBounds_toArray, List.set_cons_zero, List.set_cons_succ]
        replace hS := Till.list 8 hS
        refine take_g (i := 9) (v := ?_) [9] (some 22) rfl (by kernel_rfl) rfl (fun _ _ _ h => h) (Or.inl ⟨by rfl, ?_⟩) hS ?_
        rotate_left
        · (intro wq hq; have q0 := hq _ _ _ hc1; have q1 := hq _ _ _ hc2; go_simp); first | done | with_reducible rfl
        try simp only [Act.put, List.setIfInBounds_toArray, List.set_cons_zero, List.set_cons_succ]
        replace hS := Till.list 9 hS
        refine ready_g (rs := [10]) (by kernel_rfl) (by simp) ?_
        refine AllReadyG.cons rfl (fun Kont hK => ?_) AllReadyG.nil
        go_simp
        refine cc.mono ?_
        rintro en w' ⟨rfl, hb'⟩
        refine hK.out _ _ (Or.inl (by kernel_rfl)) (fun hS0 => ?_)
        clear hK Kont
        try simp only [Act.put, List.setIfInBounds_toArray, List.set_cons_zero, List.set_cons_succ]
        clear hS
        have hS := hS0
        clear hS0
        refine take_w (i := 11) (v := ?_) (some 24) rfl (by kernel_rfl) rfl (fun _ _ _ h => h) (Or.inl ⟨by rfl, ?_⟩) hS ?_
        rotate_left
        · (intro wq hq; go_simp); first | done | with_reducible rfl
        try simp only [Act.put, List.setIfInBounds_toArray, List.set_cons_zero, List.set_cons_succ]
        replace hS := Till.list 11 hS
        refine done_g (by kernel_rfl) (NoPanic.normal ?_) _
        clear hS
        have hb2 := Below.then hbw.drew hb'
        clear hb' hbw cc hc1 hc2
        cases hd : decide (r < 0)
        · have hr0 := of_decide_eq_false hd
          have HS2 : Hid (SrtP (cN ts K) vss q) := SrtP.step (by rw [← HQ.out]; exact HS.out) (by rw [HR.out]; omega)
          clear hd hr0
          go_wp2_with fail
          go_roundw
          case rel => exact ⟨q, rfl, hqn, HS2, hb2⟩
          case measure => have := HQ.out; simp [intOf]; omega
        · have hr0 := of_decide_eq_true hd
          have HT : Hid (srtB (cN ts K) [] vss = false) := SrtP.not (j := q) (by rw [HR.out]; omega) (by have := HQ.out; rw [hl.out]; omega)
          clear hd hr0
          go_wp2_with fail
          go_ret
          exact ⟨by rw [HT.out]; rfl, hb2⟩
      · have hpi : ¬ (0 : Int) < (p : Int) := by omega
        obtain rfl : p = 0 := by omega
        have HT := Lib.hid (SrtP.all HS.out)
        go_wp2_with fail
        go_ret
        exact ⟨by rw [HT.out]; rfl, hbw⟩
set_option maxHeartbeats 1000000 in
theorem osorted_any (A : Option Addr) (N C : Nat) (ts : List Int) (K : Nat) (m gg : Int) (R : Option Addr) (n c : Nat) (vss : List RowV) (w : World) (hv : IV w A N ts) (hN : N ≤ maxLen) (hK : K ≤ maxLen) (ht : Ty ts) (hr : RVs w R n vss) (hn : n ≤ 1000000) (hF : ∀ v ∈ vss, FR ts v) :
    Calls Try.prog 15 #[SS A N C K m gg, .slice R n c] w fun en w' => en = .returned (.bool (srtB (cN ts K) [] vss)) ∧ Below w.heap.size w w' := by
  obtain ⟨x0, x1, x2, x3⟩ := Sx.new w A N C K m gg 31
  obtain ⟨q, hq⟩ : ∃ q, srtB (cN ts K) [] vss = q := ⟨_, rfl⟩
  rw [hq]
  have HQ := Lib.hid hq
  clear hq
  go_enter Try.func15, Try.ntmps15
  go_wp2_with fail
  refine (oby_any A N C K m gg _).mono ?_
  rintro en w2 ⟨rfl, rfl⟩
  have hx2 := Sx.new (w.alloc (.cells #[.slice A N C, .int .i64 K, .int .i64 m, .int .i64 gg] 31)) A N C K m gg 31
  have hb2 := Joins.below_alloc2 w (.cells #[.slice A N C, .int .i64 K, .int .i64 m, .int .i64 gg] 31) (.cells #[.slice A N C, .int .i64 K, .int .i64 m, .int .i64 gg] 31)
  go_wp2_with fail
  rw [heap_alloc] at hx2
  refine (issorted_any _ A N C ts K m gg R n c vss _ hx2 (hv.below hb2) hN hK ht (hr.below hb2) hn hF).mono ?_
  rw [HQ.out]
  rintro en w3 ⟨rfl, hb3⟩
  go_wp2_with fail
  go_ret
  exact ⟨rfl, Below.then hb2 hb3⟩
end Go.Proofs.Ytloohkgiicgndaa
/- Contracts of sort.Search, order.Below and order.Upto. -/
namespace Go.Proofs.Ytloohkgiicgndaa
open Go.ChangeShapes Go.WideShapes Go.ChangeAt Go.RowKit
set_option linter.unusedVariables false
set_option maxRecDepth 4000

set_option maxHeartbeats 1000000 in
theorem search_any (n : Nat) (pb lb : Value) (P : Nat → Bool) (hM : MonP (fun i => P i = true) 0 n) (hn : n ≤ 1000000) (w : World)
    (hf : ∀ wr i, Below w.heap.size w wr → i < n → Calls Try.prog 35 #[.int .i64 (i : Int), pb, lb] wr fun e w' => e = .returned (.bool (P i)) ∧ Below wr.heap.size wr w') :
    Calls Try.prog 34 #[.int .i64 (n : Int), .func (.func 35) #[] #[pb, lb]] w fun e w' => ∃ t : Nat, e = .returned (.int .i64 (t : Int)) ∧ Hid (SchP (fun i => P i = true) 0 n t t) ∧ Below w.heap.size w w' := by
  have HM := Lib.hid hM
  have HF := Lib.hid hf
  clear hM hf
  go_enter Try.func34, Try.ntmps34
  go_wp2_with fail
  go_loopw [5, 6] (fun vi vj wr => ∃ (i j : Nat), vi = .int .i64 (i : Int) ∧ vj = .int .i64 (j : Int) ∧ (i ≤ j ∧ j ≤ n) ∧ Hid (SchP (fun i => P i = true) 0 n i j) ∧ Below w.heap.size w wr) (fun vi vj _ => (intOf vj).toNat - (intOf vi).toNat)
  case atStart => exact ⟨0, n, rfl, rfl, by omega, SchP.start (by omega), Below.refl _ _⟩
  case round =>
    obtain ⟨i, j, rfl, rfl, hij, HJ, hbw⟩ := hrel
    by_cases hlt : i < j
    · have hlt' : (i : Int) < (j : Int) := by omega
      obtain ⟨h, hh⟩ : ∃ h : Nat, (i + j) / 2 = h := ⟨_, rfl⟩
      have w1 : ((i : Int) + (j : Int)) / 2 = (h : Int) := by omega
      have hih := half_of hh hlt
      clear hh
      have w3 : IntKind.i64.wrap ((h : Int) + 1) = ((h + 1 : Nat) : Int) := by rw [IntKind.wrap_i64]; omega
      go_wp2_with fail
      refine (HF.out _ h hbw (by omega)).mono ?_
      rintro e w' ⟨rfl, hb'⟩
      have hb2 := Below.then hbw hb'
      clear hb' hbw w1
      cases hp : P h
      · have HJ2 := Lib.hid (HJ.out.up HM.out hih.1 hih.2 (by rw [hp]; simp))
        clear hp
        go_wp2_with fail
        go_roundw
        case rel => exact ⟨h + 1, j, by go_num, rfl, by omega, HJ2, hb2⟩
        case measure => simp [intOf]; omega
      · have HJ2 := Lib.hid (HJ.out.down HM.out hih.1 hih.2 hp)
        clear hp
        go_wp2_with fail
        go_roundw
        case rel => exact ⟨i, h, rfl, rfl, by omega, HJ2, hb2⟩
        case measure => simp [intOf]; omega
    · have hlt' : ¬ (i : Int) < (j : Int) := by omega
      obtain rfl : i = j := by omega
      go_wp2_with fail
      go_ret
      exact ⟨i, rfl, HJ, hbw⟩
set_option maxHeartbeats 1000000 in
theorem below1_any (cb kb sb : Nat) (A : Option Addr) (N C : Nat) (ts : List Int) (K : Nat) (m gg : Int) (R1 : Option Addr) (n1 c1 : Nat) (u1 : RowV) (R2 : Option Addr) (n2 c2 : Nat) (u2 : RowV) (w : World)
    (hcb : w.cell? ⟨cb, 0, none⟩ = some (FV (.pointer (some ⟨sb, 0, none⟩)))) (hkb : w.cell? ⟨kb, 0, none⟩ = some (.slice R2 n2 c2)) (hx : Sx w sb A N C K m gg)
    (hv : IV w A N ts) (hN : N ≤ maxLen) (ha : WV w R1 n1 u1) (hna : n1 ≤ maxLen) (hb : WV w R2 n2 u2) (hnb : n2 ≤ maxLen) (hK : K ≤ maxLen) :
    Calls Try.prog 28 #[.slice R1 n1 c1, .pointer (some ⟨cb, 0, none⟩), .pointer (some ⟨kb, 0, none⟩)] w fun e w' => e = .returned (.bool (decide (0 ≤ cR (ts.take K) u1 u2))) ∧ Below w.heap.size w w' := by
  obtain ⟨q, hq⟩ : ∃ q, cR (ts.take K) u1 u2 = q := ⟨_, rfl⟩
  rw [hq]
  have HQ := Lib.hid hq
  clear hq
  go_enter Try.func28, Try.ntmps28
  go_wp2_with fail
  refine (by1_any sb A N C ts K m gg R1 n1 c1 u1 R2 n2 c2 u2 _ hx hv hN ha hna hb hnb hK).mono ?_
  rw [HQ.out]
  rintro e w1 ⟨rfl, h⟩
  go_wp2_with fail
  go_ret
  exact ⟨by first | rfl | simp, h⟩
set_option maxHeartbeats 1000000 in
theorem below1_at (pb lb cb kb sb : Nat) (A : Option Addr) (N C : Nat) (ts : List Int) (K : Nat) (m gg : Int) (R : Option Addr) (n c : Nat) (vss : List RowV) (R2 : Option Addr) (n2 c2 : Nat) (u2 : RowV) (i : Nat) (w : World)
    (hpb : w.cell? ⟨pb, 0, none⟩ = some (.func (.func 28) #[] #[.pointer (some ⟨cb, 0, none⟩), .pointer (some ⟨kb, 0, none⟩)])) (hlb : w.cell? ⟨lb, 0, none⟩ = some (.slice R n c)) (hcb : w.cell? ⟨cb, 0, none⟩ = some (FV (.pointer (some ⟨sb, 0, none⟩)))) (hkb : w.cell? ⟨kb, 0, none⟩ = some (.slice R2 n2 c2)) (hx : Sx w sb A N C K m gg)
    (hv : IV w A N ts) (hN : N ≤ maxLen) (hr : RVs w R n vss) (hb : WV w R2 n2 u2) (hnb : n2 ≤ maxLen) (hKm : K ≤ maxLen) (hi : i < n) :
    Calls Try.prog 35 #[.int .i64 (i : Int), .pointer (some ⟨pb, 0, none⟩), .pointer (some ⟨lb, 0, none⟩)] w fun e w' => e = .returned (.bool (decide (0 ≤ cR (ts.take K) (vss.getD i []) u2))) ∧ Below w.heap.size w w' := by
  obtain ⟨b, off, A1, L1, C1, rfl, hc1, hL1, hw1⟩ := hr.at i hi
  obtain ⟨u, hu⟩ : ∃ u, vss.getD i [] = u := ⟨_, rfl⟩
  rw [hu] at hw1 ⊢
  obtain ⟨q, hq⟩ : ∃ q, decide (0 ≤ cR (ts.take K) u u2) = q := ⟨_, rfl⟩
  rw [hq]
  have HQ := Lib.hid hq
  clear hq hu
  go_enter Try.func35, Try.ntmps35
  go_wp2_with fail
  refine wp_region_noPanic ?_
  refine region_g 5 (Ext (World.drew _)) (by kernel_rfl) (Ext.refl _) (fun hS => ?_)
  refine take_g (i := 0) (v := ?_) [0] (some 5) rfl (by kernel_rfl) rfl (fun _ _ _ h => h) (Or.inl ⟨by rfl, ?_⟩) hS ?_
  rotate_left
  · (intro wq hq; have q0 := hq _ _ _ hpb; have q1 := hq _ _ _ hlb; have q2 := hq _ _ _ hc1; go_simp); first | done | with_reducible rfl
  try simp only [Act.put, List.setIfInBounds_toArray, List.set_cons_zero, List.set_cons_succ]
  replace hS := Till.list 0 hS
  refine take_g (i := 1) (v := ?_) [4, 3, 1] (some 6) rfl (by kernel_rfl) rfl (fun _ _ _ h => h) (Or.inl ⟨by rfl, ?_⟩) hS ?_
  rotate_left
  · (intro wq hq; have q0 := hq _ _ _ hpb; have q1 := hq _ _ _ hlb; have q2 := hq _ _ _ hc1; go_simp); first | done | with_reducible rfl
  try simp only [Act.put, List.setIfInBounds_toArray, List.set_cons_zero, List.set_cons_succ]
  replace hS := Till.list 1 hS
  refine take_w (i := 2) (v := ?_) (some 7) rfl (by kernel_rfl) rfl (fun _ _ _ h => h) (Or.inl ⟨by rfl, ?_⟩) hS ?_
  rotate_left
  · (intro wq hq; go_simp); first | done | with_reducible rfl
  try simp only [Act.put, List.setIfInBounds_toArray, List.set_cons_zero, List.set_cons_succ]
  replace hS := Till.list 2 hS
  refine take_w (i := 3) (v := ?_) (some 8) rfl (by kernel_rfl) rfl (fun _ _ _ h => h) (Or.inl ⟨by rfl, ?_⟩) hS ?_
  rotate_left
  · (intro wq hq; go_simp); first | done | with_reducible rfl
  try simp only [Act.put, List.setIfInBounds_toArray, List.set_cons_zero, List.set_cons_succ]
  replace hS := Till.list 3 hS
  refine take_g (i := 4) (v := ?_) [4] (some 9) rfl (by kernel_rfl) rfl (fun _ _ _ h => h) (Or.inl ⟨by rfl, ?_⟩) hS ?_
  rotate_left
  · (intro wq hq; have q0 := hq _ _ _ hpb; have q1 := hq _ _ _ hlb; have q2 := hq _ _ _ hc1; go_simp); first | done | with_reducible rfl
  try simp only [Act.put, List.setIfInBounds_toArray, List.set_cons_zero, List.set_cons_succ]
  replace hS := Till.list 4 hS
  refine ready_g (rs := [5]) (by kernel_rfl) (by simp) ?_
  refine AllReadyG.cons rfl (fun Kont hK => ?_) AllReadyG.nil
  go_simp
  refine (below1_any cb kb sb A N C ts K m gg A1 L1 C1 u R2 n2 c2 u2 w.drew hcb hkb hx hv.drew hN hw1.drew hL1 hb.drew hnb hKm).mono ?_
  rw [HQ.out]
  rintro e w1 ⟨rfl, h⟩
  refine hK.out _ _ (Or.inl (by kernel_rfl)) (fun hS0 => ?_)
  clear hK Kont
  try simp only [Act.put, List.setIfInBounds_toArray, List.set_cons_zero, List.set_cons_succ]
  clear hS
  have hS := hS0
  clear hS0
  refine take_w (i := 6) (v := ?_) (some 4) rfl (by kernel_rfl) rfl (fun _ _ _ h => h) (Or.inl ⟨by rfl, ?_⟩) hS ?_
  rotate_left
  · (intro wq hq; go_simp); first | done | with_reducible rfl
  try simp only [Act.put, List.setIfInBounds_toArray, List.set_cons_zero, List.set_cons_succ]
  replace hS := Till.list 6 hS
  refine done_g (by kernel_rfl) (NoPanic.normal ?_) _
  clear hS
  go_wp2_with fail
  go_ret
  exact ⟨rfl, (Below.refl _ _).drew.trans h⟩
set_option maxHeartbeats 1000000 in
theorem below1_ahead (cb kb sb : Nat) (A : Option Addr) (N C : Nat) (ts : List Int) (K : Nat) (m gg : Int) (R : Option Addr) (n c : Nat) (vss : List RowV) (R2 : Option Addr) (n2 c2 : Nat) (u2 : RowV) (w : World)
    (hcb : w.cell? ⟨cb, 0, none⟩ = some (FV (.pointer (some ⟨sb, 0, none⟩)))) (hkb : w.cell? ⟨kb, 0, none⟩ = some (.slice R2 n2 c2)) (hx : Sx w sb A N C K m gg)
    (hv : IV w A N ts) (hN : N ≤ maxLen) (hr : RVs w R n vss) (hn : n ≤ 1000000) (hb : WV w R2 n2 u2) (hnb : n2 ≤ maxLen) (hK : K ≤ maxLen) (hM : MonP (fun i => decide (0 ≤ cR (ts.take K) (vss.getD i []) u2) = true) 0 n) :
    Calls Try.prog 27 #[.slice R n c, .func (.func 28) #[] #[.pointer (some ⟨cb, 0, none⟩), .pointer (some ⟨kb, 0, none⟩)]] w fun e w' => (∃ t : Nat, e = .returned (.int .i64 (t : Int)) ∧ Hid (SchP (fun i => decide (0 ≤ cR (ts.take K) (vss.getD i []) u2) = true) 0 n t t)) ∧ Below w.heap.size w w' := by
  have l0 := Bk.new w #[.slice R n c] 25
  have l1 := l0.alloc (.cells #[.func (.func 28) #[] #[.pointer (some ⟨cb, 0, none⟩), .pointer (some ⟨kb, 0, none⟩)]] 54)
  have p1 := Bk.new (w.alloc (.cells #[.slice R n c] 25)) #[.func (.func 28) #[] #[.pointer (some ⟨cb, 0, none⟩), .pointer (some ⟨kb, 0, none⟩)]] 54
  rw [heap_alloc] at p1
  have hb2 := Joins.below_alloc2 w (.cells #[.slice R n c] 25) (.cells #[.func (.func 28) #[] #[.pointer (some ⟨cb, 0, none⟩), .pointer (some ⟨kb, 0, none⟩)]] 54)
  have d1 := l1.cell 0 (v := .slice R n c) rfl
  have d2 := p1.cell 0 (v := .func (.func 28) #[] #[.pointer (some ⟨cb, 0, none⟩), .pointer (some ⟨kb, 0, none⟩)]) rfl
  have HF : Hid (∀ wr i, Below w.heap.size w wr → wr.cell? ⟨w.heap.size, 0, none⟩ = some (.slice R n c) → wr.cell? ⟨w.heap.size + 1, 0, none⟩ = some (.func (.func 28) #[] #[.pointer (some ⟨cb, 0, none⟩), .pointer (some ⟨kb, 0, none⟩)]) → i < n → Calls Try.prog 35 #[.int .i64 (i : Int), .pointer (some ⟨w.heap.size + 1, 0, none⟩), .pointer (some ⟨w.heap.size, 0, none⟩)] wr fun e w' => e = .returned (.bool (decide (0 ≤ cR (ts.take K) (vss.getD i []) u2))) ∧ Below wr.heap.size wr w') := fun wr i hbw q1 q2 hi =>
    below1_at _ _ cb kb sb A N C ts K m gg R n c vss R2 n2 c2 u2 i wr q2 q1 (keepc hcb hbw) (keepc hkb hbw) (hx.below hbw) (hv.below hbw) hN (hr.below hbw) (hb.below hbw) hnb hK hi
  clear l0 l1 p1
  go_enter Try.func27, Try.ntmps27
  go_wp2_with fail
  refine (search_any n _ _ (fun i => decide (0 ≤ cR (ts.take K) (vss.getD i []) u2)) hM hn _ (fun wr i hbw hi => HF.out wr i (Below.then hb2 hbw) (keepc d1 hbw) (keepc d2 hbw) hi)).mono ?_
  rintro e w1 ⟨t, rfl, hS, hb3⟩
  go_wp2_with fail
  go_ret
  exact ⟨⟨t, rfl, hS⟩, Below.then hb2 hb3⟩
set_option maxHeartbeats 1000000 in
theorem upto1_any (cb kb sb : Nat) (A : Option Addr) (N C : Nat) (ts : List Int) (K : Nat) (m gg : Int) (R1 : Option Addr) (n1 c1 : Nat) (u1 : RowV) (R2 : Option Addr) (n2 c2 : Nat) (u2 : RowV) (w : World)
    (hcb : w.cell? ⟨cb, 0, none⟩ = some (FV (.pointer (some ⟨sb, 0, none⟩)))) (hkb : w.cell? ⟨kb, 0, none⟩ = some (.slice R2 n2 c2)) (hx : Sx w sb A N C K m gg)
    (hv : IV w A N ts) (hN : N ≤ maxLen) (ha : WV w R1 n1 u1) (hna : n1 ≤ maxLen) (hb : WV w R2 n2 u2) (hnb : n2 ≤ maxLen) (hK : K ≤ maxLen) :
    Calls Try.prog 29 #[.slice R1 n1 c1, .pointer (some ⟨cb, 0, none⟩), .pointer (some ⟨kb, 0, none⟩)] w fun e w' => e = .returned (.bool (decide (0 < cR (ts.take K) u1 u2))) ∧ Below w.heap.size w w' := by
  obtain ⟨q, hq⟩ : ∃ q, cR (ts.take K) u1 u2 = q := ⟨_, rfl⟩
  rw [hq]
  have HQ := Lib.hid hq
  clear hq
  go_enter Try.func29, Try.ntmps29
  go_wp2_with fail
  refine (by1_any sb A N C ts K m gg R1 n1 c1 u1 R2 n2 c2 u2 _ hx hv hN ha hna hb hnb hK).mono ?_
  rw [HQ.out]
  rintro e w1 ⟨rfl, h⟩
  go_wp2_with fail
  go_ret
  exact ⟨by first | rfl | simp, h⟩
set_option maxHeartbeats 1000000 in
theorem upto1_at (pb lb cb kb sb : Nat) (A : Option Addr) (N C : Nat) (ts : List Int) (K : Nat) (m gg : Int) (R : Option Addr) (n c : Nat) (vss : List RowV) (R2 : Option Addr) (n2 c2 : Nat) (u2 : RowV) (i : Nat) (w : World)
    (hpb : w.cell? ⟨pb, 0, none⟩ = some (.func (.func 29) #[] #[.pointer (some ⟨cb, 0, none⟩), .pointer (some ⟨kb, 0, none⟩)])) (hlb : w.cell? ⟨lb, 0, none⟩ = some (.slice R n c)) (hcb : w.cell? ⟨cb, 0, none⟩ = some (FV (.pointer (some ⟨sb, 0, none⟩)))) (hkb : w.cell? ⟨kb, 0, none⟩ = some (.slice R2 n2 c2)) (hx : Sx w sb A N C K m gg)
    (hv : IV w A N ts) (hN : N ≤ maxLen) (hr : RVs w R n vss) (hb : WV w R2 n2 u2) (hnb : n2 ≤ maxLen) (hKm : K ≤ maxLen) (hi : i < n) :
    Calls Try.prog 35 #[.int .i64 (i : Int), .pointer (some ⟨pb, 0, none⟩), .pointer (some ⟨lb, 0, none⟩)] w fun e w' => e = .returned (.bool (decide (0 < cR (ts.take K) (vss.getD i []) u2))) ∧ Below w.heap.size w w' := by
  obtain ⟨b, off, A1, L1, C1, rfl, hc1, hL1, hw1⟩ := hr.at i hi
  obtain ⟨u, hu⟩ : ∃ u, vss.getD i [] = u := ⟨_, rfl⟩
  rw [hu] at hw1 ⊢
  obtain ⟨q, hq⟩ : ∃ q, decide (0 < cR (ts.take K) u u2) = q := ⟨_, rfl⟩
  rw [hq]
  have HQ := Lib.hid hq
  clear hq hu
  go_enter Try.func35, Try.ntmps35
  go_wp2_with fail
  refine wp_region_noPanic ?_
  refine region_g 5 (Ext (World.drew _)) (by kernel_rfl) (Ext.refl _) (fun hS => ?_)
  refine take_g (i := 0) (v := ?_) [0] (some 5) rfl (by kernel_rfl) rfl (fun _ _ _ h => h) (Or.inl ⟨by rfl, ?_⟩) hS ?_
  rotate_left
  · (intro wq hq; have q0 := hq _ _ _ hpb; have q1 := hq _ _ _ hlb; have q2 := hq _ _ _ hc1; go_simp); first | done | with_reducible rfl
  try simp only [Act.put, List.setIfInBounds_toArray, List.set_cons_zero, List.set_cons_succ]
  replace hS := Till.list 0 hS
  refine take_g (i := 1) (v := ?_) [4, 3, 1] (some 6) rfl (by kernel_rfl) rfl (fun _ _ _ h => h) (Or.inl ⟨by rfl, ?_⟩) hS ?_
  rotate_left
  · (intro wq hq; have q0 := hq _ _ _ hpb; have q1 := hq _ _ _ hlb; have q2 := hq _ _ _ hc1; go_simp); first | done | with_reducible rfl
  try simp only [Act.put, List.setIfInBounds_toArray, List.set_cons_zero, List.set_cons_succ]
  replace hS := Till.list 1 hS
  refine take_w (i := 2) (v := ?_) (some 7) rfl (by kernel_rfl) rfl (fun _ _ _ h => h) (Or.inl ⟨by rfl, ?_⟩) hS ?_
  rotate_left
  · (intro wq hq; go_simp); first | done | with_reducible rfl
  try simp only [Act.put, List.setIfInBounds_toArray, List.set_cons_zero, List.set_cons_succ]
  replace hS := Till.list 2 hS
  refine take_w (i := 3) (v := ?_) (some 8) rfl (by kernel_rfl) rfl (fun _ _ _ h => h) (Or.inl ⟨by rfl, ?_⟩) hS ?_
  rotate_left
  · (intro wq hq; go_simp); first | done | with_reducible rfl
  try simp only [Act.put, List.setIfInBounds_toArray, List.set_cons_zero, List.set_cons_succ]
  replace hS := Till.list 3 hS
  refine take_g (i := 4) (v := ?_) [4] (some 9) rfl (by kernel_rfl) rfl (fun _ _ _ h => h) (Or.inl ⟨by rfl, ?_⟩) hS ?_
  rotate_left
  · (intro wq hq; have q0 := hq _ _ _ hpb; have q1 := hq _ _ _ hlb; have q2 := hq _ _ _ hc1; go_simp); first | done | with_reducible rfl
  try simp only [Act.put, List.setIfInBounds_toArray, List.set_cons_zero, List.set_cons_succ]
  replace hS := Till.list 4 hS
  refine ready_g (rs := [5]) (by kernel_rfl) (by simp) ?_
  refine AllReadyG.cons rfl (fun Kont hK => ?_) AllReadyG.nil
  go_simp
  refine (upto1_any cb kb sb A N C ts K m gg A1 L1 C1 u R2 n2 c2 u2 w.drew hcb hkb hx hv.drew hN hw1.drew hL1 hb.drew hnb hKm).mono ?_
  rw [HQ.out]
  rintro e w1 ⟨rfl, h⟩
  refine hK.out _ _ (Or.inl (by kernel_rfl)) (fun hS0 => ?_)
  clear hK Kont
  try simp only [Act.put, List.setIfInBounds_toArray, List.set_cons_zero, List.set_cons_succ]
  clear hS
  have hS := hS0
  clear hS0
  refine take_w (i := 6) (v := ?_) (some 4) rfl (by kernel_rfl) rfl (fun _ _ _ h => h) (Or.inl ⟨by rfl, ?_⟩) hS ?_
  rotate_left
  · (intro wq hq; go_simp); first | done | with_reducible rfl
  try simp only [Act.put, List.setIfInBounds_toArray, List.set_cons_zero, List.set_cons_succ]
  replace hS := Till.list 6 hS
  refine done_g (by kernel_rfl) (NoPanic.normal ?_) _
  clear hS
  go_wp2_with fail
  go_ret
  exact ⟨rfl, (Below.refl _ _).drew.trans h⟩
set_option maxHeartbeats 1000000 in
theorem upto1_ahead (cb kb sb : Nat) (A : Option Addr) (N C : Nat) (ts : List Int) (K : Nat) (m gg : Int) (R : Option Addr) (n c : Nat) (vss : List RowV) (R2 : Option Addr) (n2 c2 : Nat) (u2 : RowV) (w : World)
    (hcb : w.cell? ⟨cb, 0, none⟩ = some (FV (.pointer (some ⟨sb, 0, none⟩)))) (hkb : w.cell? ⟨kb, 0, none⟩ = some (.slice R2 n2 c2)) (hx : Sx w sb A N C K m gg)
    (hv : IV w A N ts) (hN : N ≤ maxLen) (hr : RVs w R n vss) (hn : n ≤ 1000000) (hb : WV w R2 n2 u2) (hnb : n2 ≤ maxLen) (hK : K ≤ maxLen) (hM : MonP (fun i => decide (0 < cR (ts.take K) (vss.getD i []) u2) = true) 0 n) :
    Calls Try.prog 27 #[.slice R n c, .func (.func 29) #[] #[.pointer (some ⟨cb, 0, none⟩), .pointer (some ⟨kb, 0, none⟩)]] w fun e w' => (∃ t : Nat, e = .returned (.int .i64 (t : Int)) ∧ Hid (SchP (fun i => decide (0 < cR (ts.take K) (vss.getD i []) u2) = true) 0 n t t)) ∧ Below w.heap.size w w' := by
  have l0 := Bk.new w #[.slice R n c] 25
  have l1 := l0.alloc (.cells #[.func (.func 29) #[] #[.pointer (some ⟨cb, 0, none⟩), .pointer (some ⟨kb, 0, none⟩)]] 54)
  have p1 := Bk.new (w.alloc (.cells #[.slice R n c] 25)) #[.func (.func 29) #[] #[.pointer (some ⟨cb, 0, none⟩), .pointer (some ⟨kb, 0, none⟩)]] 54
  rw [heap_alloc] at p1
  have hb2 := Joins.below_alloc2 w (.cells #[.slice R n c] 25) (.cells #[.func (.func 29) #[] #[.pointer (some ⟨cb, 0, none⟩), .pointer (some ⟨kb, 0, none⟩)]] 54)
  have d1 := l1.cell 0 (v := .slice R n c) rfl
  have d2 := p1.cell 0 (v := .func (.func 29) #[] #[.pointer (some ⟨cb, 0, none⟩), .pointer (some ⟨kb, 0, none⟩)]) rfl
  have HF : Hid (∀ wr i, Below w.heap.size w wr → wr.cell? ⟨w.heap.size, 0, none⟩ = some (.slice R n c) → wr.cell? ⟨w.heap.size + 1, 0, none⟩ = some (.func (.func 29) #[] #[.pointer (some ⟨cb, 0, none⟩), .pointer (some ⟨kb, 0, none⟩)]) → i < n → Calls Try.prog 35 #[.int .i64 (i : Int), .pointer (some ⟨w.heap.size + 1, 0, none⟩), .pointer (some ⟨w.heap.size, 0, none⟩)] wr fun e w' => e = .returned (.bool (decide (0 < cR (ts.take K) (vss.getD i []) u2))) ∧ Below wr.heap.size wr w') := fun wr i hbw q1 q2 hi =>
    upto1_at _ _ cb kb sb A N C ts K m gg R n c vss R2 n2 c2 u2 i wr q2 q1 (keepc hcb hbw) (keepc hkb hbw) (hx.below hbw) (hv.below hbw) hN (hr.below hbw) (hb.below hbw) hnb hK hi
  clear l0 l1 p1
  go_enter Try.func27, Try.ntmps27
  go_wp2_with fail
  refine (search_any n _ _ (fun i => decide (0 < cR (ts.take K) (vss.getD i []) u2)) hM hn _ (fun wr i hbw hi => HF.out wr i (Below.then hb2 hbw) (keepc d1 hbw) (keepc d2 hbw) hi)).mono ?_
  rintro e w1 ⟨t, rfl, hS, hb3⟩
  go_wp2_with fail
  go_ret
  exact ⟨⟨t, rfl, hS⟩, Below.then hb2 hb3⟩
set_option maxHeartbeats 2000000 in
theorem obelow_any (A : Option Addr) (N C : Nat) (ts : List Int) (K : Nat) (m gg : Int) (R : Option Addr) (n c : Nat) (vss : List RowV) (R2 : Option Addr) (n2 c2 : Nat) (u2 : RowV) (w : World)
    (hv : IV w A N ts) (hN : N ≤ maxLen) (hr : RVs w R n vss) (hn : n ≤ 1000000) (hb : WV w R2 n2 u2) (hnb : n2 ≤ maxLen) (hK : K ≤ maxLen) (hM : ∀ x y, x ≤ y → y < n → 0 ≤ cR (ts.take K) (vss.getD x []) u2 → 0 ≤ cR (ts.take K) (vss.getD y []) u2) :
    Calls Try.prog 17 #[SS A N C K m gg, .slice R n c, .slice R2 n2 c2] w fun e w' => e = .returned (.int .i64 ((countA (fun r => decide (cR (ts.take K) r u2 < 0)) vss : Nat) : Int)) ∧ Below w.heap.size w w' := by
  have hM' : MonP (fun i => decide (0 ≤ cR (ts.take K) (vss.getD i []) u2) = true) 0 n := fun x y h1 h2 h3 h4 => decide_eq_true (hM x y h2 h3 (of_decide_eq_true h4))
  have hl := Lib.hid hr.1
  have HC : Hid (∀ t : Nat, SchP (fun i => decide (0 ≤ cR (ts.take K) (vss.getD i []) u2) = true) 0 n t t → t = countA (fun r => decide (cR (ts.take K) r u2 < 0)) vss) := fun t h => by
    refine (countA_first _ [] vss t (by rw [hl.out]; exact h.h) (fun i hi => ?_) (fun i hi h2 => ?_)).symm
    · have := h.no i (Nat.zero_le _) hi
      have h3 : ¬ 0 ≤ cR (ts.take K) (vss.getD i []) u2 := fun q => this (decide_eq_true q)
      exact decide_eq_true (by omega)
    · have := of_decide_eq_true (h.yes i hi (by rw [hl.out] at h2; exact h2))
      exact decide_eq_false (by omega)
  obtain ⟨q, hq⟩ : ∃ q : Nat, countA (fun r => decide (cR (ts.take K) r u2 < 0)) vss = q := ⟨_, rfl⟩
  rw [hq]
  have HQ := Lib.hid hq
  clear hq hM
  obtain ⟨x0, x1, x2, x3⟩ := (Sx.new w A N C K m gg 31).alloc (.cells #[.slice R2 n2 c2] 27)
  go_enter Try.func17, Try.ntmps17
  go_wp2_with fail
  clear x0 x1 x2 x3
  refine (oby_any A N C K m gg _).mono ?_
  rintro en w2 ⟨rfl, rfl⟩
  have k0 := ((Bk.new (w.alloc (.cells #[.slice A N C, .int .i64 K, .int .i64 m, .int .i64 gg] 31)) #[.slice R2 n2 c2] 27).alloc (.cells #[.slice A N C, .int .i64 K, .int .i64 m, .int .i64 gg] 31))
  have hx2 := Sx.new ((w.alloc (.cells #[.slice A N C, .int .i64 K, .int .i64 m, .int .i64 gg] 31)).alloc (.cells #[.slice R2 n2 c2] 27)) A N C K m gg 31
  have hb2 := Joins.below_alloc3 w (.cells #[.slice A N C, .int .i64 K, .int .i64 m, .int .i64 gg] 31) (.cells #[.slice R2 n2 c2] 27) (.cells #[.slice A N C, .int .i64 K, .int .i64 m, .int .i64 gg] 31)
  rw [heap_alloc] at k0
  rw [heap_alloc, heap_alloc] at hx2
  have hsz : (((w.alloc (.cells #[.slice A N C, .int .i64 K, .int .i64 m, .int .i64 gg] 31)).alloc (.cells #[.slice R2 n2 c2] 27)).alloc (.cells #[.slice A N C, .int .i64 K, .int .i64 m, .int .i64 gg] 31)).heap.size = w.heap.size + 3 := by rw [heap_alloc, heap_alloc, heap_alloc]
  have hv2 := hv.below hb2
  have hr2 := hr.below hb2
  have hb3 := hb.below hb2
  clear hv hr hb
  generalize ((w.alloc (.cells #[.slice A N C, .int .i64 K, .int .i64 m, .int .i64 gg] 31)).alloc (.cells #[.slice R2 n2 c2] 27)).alloc (.cells #[.slice A N C, .int .i64 K, .int .i64 m, .int .i64 gg] 31) = W at *
  have nb := Bk.new W #[.nilFunc] 50
  rw [hsz] at nb
  have nc := nb.cell 0 (v := .nilFunc) rfl
  have nf := nb.free 0
  have m0 := k0.alloc (.cells #[FV (.pointer (some ⟨w.heap.size + 1 + 1, 0, none⟩))] 50)
  have m1 := Bk.new W #[FV (.pointer (some ⟨w.heap.size + 1 + 1, 0, none⟩))] 50
  rw [hsz] at m1
  have hb4 := hb2.alloc (by omega) (.cells #[FV (.pointer (some ⟨w.heap.size + 1 + 1, 0, none⟩))] 50)
  have hbW := Joins.below_alloc1 W (.cells #[FV (.pointer (some ⟨w.heap.size + 1 + 1, 0, none⟩))] 50)
  have hst := fun wq => run_store (P := Try.prog) wq ⟨w.heap.size + 3, 0, none⟩ (FV (.pointer (some ⟨w.heap.size + 1 + 1, 0, none⟩))) .plain rfl
  clear nb k0 hb2
  go_wp2_with fail
  clear nc nf hst
  have hx2 := hx2.below hbW
  have hv2 := hv2.below hbW
  have hr2 := hr2.below hbW
  have hb3 := hb3.below hbW
  refine (below1_ahead (w.heap.size + 3) (w.heap.size + 1) _ A N C ts K m gg R n c vss R2 n2 c2 u2 _ (m1.cell 0 rfl) (m0.cell 0 rfl) hx2 hv2 hN hr2 hn hb3 hnb hK hM').mono ?_
  rintro en w3 ⟨⟨t, rfl, hS⟩, hb5⟩
  have ht := HC.out t hS.out
  rw [HQ.out] at ht
  subst ht
  go_wp2_with fail
  go_ret
  exact ⟨rfl, Below.then hb4 hb5⟩
set_option maxHeartbeats 2000000 in
theorem oupto_any (A : Option Addr) (N C : Nat) (ts : List Int) (K : Nat) (m gg : Int) (R : Option Addr) (n c : Nat) (vss : List RowV) (R2 : Option Addr) (n2 c2 : Nat) (u2 : RowV) (w : World)
    (hv : IV w A N ts) (hN : N ≤ maxLen) (hr : RVs w R n vss) (hn : n ≤ 1000000) (hb : WV w R2 n2 u2) (hnb : n2 ≤ maxLen) (hK : K ≤ maxLen) (hM : ∀ x y, x ≤ y → y < n → 0 < cR (ts.take K) (vss.getD x []) u2 → 0 < cR (ts.take K) (vss.getD y []) u2) :
    Calls Try.prog 19 #[SS A N C K m gg, .slice R n c, .slice R2 n2 c2] w fun e w' => e = .returned (.int .i64 ((countA (fun r => decide (cR (ts.take K) r u2 ≤ 0)) vss : Nat) : Int)) ∧ Below w.heap.size w w' := by
  have hM' : MonP (fun i => decide (0 < cR (ts.take K) (vss.getD i []) u2) = true) 0 n := fun x y h1 h2 h3 h4 => decide_eq_true (hM x y h2 h3 (of_decide_eq_true h4))
  have hl := Lib.hid hr.1
  have HC : Hid (∀ t : Nat, SchP (fun i => decide (0 < cR (ts.take K) (vss.getD i []) u2) = true) 0 n t t → t = countA (fun r => decide (cR (ts.take K) r u2 ≤ 0)) vss) := fun t h => by
    refine (countA_first _ [] vss t (by rw [hl.out]; exact h.h) (fun i hi => ?_) (fun i hi h2 => ?_)).symm
    · have := h.no i (Nat.zero_le _) hi
      have h3 : ¬ 0 < cR (ts.take K) (vss.getD i []) u2 := fun q => this (decide_eq_true q)
      exact decide_eq_true (by omega)
    · have := of_decide_eq_true (h.yes i hi (by rw [hl.out] at h2; exact h2))
      exact decide_eq_false (by omega)
  obtain ⟨q, hq⟩ : ∃ q : Nat, countA (fun r => decide (cR (ts.take K) r u2 ≤ 0)) vss = q := ⟨_, rfl⟩
  rw [hq]
  have HQ := Lib.hid hq
  clear hq hM
  obtain ⟨x0, x1, x2, x3⟩ := (Sx.new w A N C K m gg 31).alloc (.cells #[.slice R2 n2 c2] 27)
  go_enter Try.func19, Try.ntmps19
  go_wp2_with fail
  clear x0 x1 x2 x3
  refine (oby_any A N C K m gg _).mono ?_
  rintro en w2 ⟨rfl, rfl⟩
  have k0 := ((Bk.new (w.alloc (.cells #[.slice A N C, .int .i64 K, .int .i64 m, .int .i64 gg] 31)) #[.slice R2 n2 c2] 27).alloc (.cells #[.slice A N C, .int .i64 K, .int .i64 m, .int .i64 gg] 31))
  have hx2 := Sx.new ((w.alloc (.cells #[.slice A N C, .int .i64 K, .int .i64 m, .int .i64 gg] 31)).alloc (.cells #[.slice R2 n2 c2] 27)) A N C K m gg 31
  have hb2 := Joins.below_alloc3 w (.cells #[.slice A N C, .int .i64 K, .int .i64 m, .int .i64 gg] 31) (.cells #[.slice R2 n2 c2] 27) (.cells #[.slice A N C, .int .i64 K, .int .i64 m, .int .i64 gg] 31)
  rw [heap_alloc] at k0
  rw [heap_alloc, heap_alloc] at hx2
  have hsz : (((w.alloc (.cells #[.slice A N C, .int .i64 K, .int .i64 m, .int .i64 gg] 31)).alloc (.cells #[.slice R2 n2 c2] 27)).alloc (.cells #[.slice A N C, .int .i64 K, .int .i64 m, .int .i64 gg] 31)).heap.size = w.heap.size + 3 := by rw [heap_alloc, heap_alloc, heap_alloc]
  have hv2 := hv.below hb2
  have hr2 := hr.below hb2
  have hb3 := hb.below hb2
  clear hv hr hb
  generalize ((w.alloc (.cells #[.slice A N C, .int .i64 K, .int .i64 m, .int .i64 gg] 31)).alloc (.cells #[.slice R2 n2 c2] 27)).alloc (.cells #[.slice A N C, .int .i64 K, .int .i64 m, .int .i64 gg] 31) = W at *
  have nb := Bk.new W #[.nilFunc] 50
  rw [hsz] at nb
  have nc := nb.cell 0 (v := .nilFunc) rfl
  have nf := nb.free 0
  have m0 := k0.alloc (.cells #[FV (.pointer (some ⟨w.heap.size + 1 + 1, 0, none⟩))] 50)
  have m1 := Bk.new W #[FV (.pointer (some ⟨w.heap.size + 1 + 1, 0, none⟩))] 50
  rw [hsz] at m1
  have hb4 := hb2.alloc (by omega) (.cells #[FV (.pointer (some ⟨w.heap.size + 1 + 1, 0, none⟩))] 50)
  have hbW := Joins.below_alloc1 W (.cells #[FV (.pointer (some ⟨w.heap.size + 1 + 1, 0, none⟩))] 50)
  have hst := fun wq => run_store (P := Try.prog) wq ⟨w.heap.size + 3, 0, none⟩ (FV (.pointer (some ⟨w.heap.size + 1 + 1, 0, none⟩))) .plain rfl
  clear nb k0 hb2
  go_wp2_with fail
  clear nc nf hst
  have hx2 := hx2.below hbW
  have hv2 := hv2.below hbW
  have hr2 := hr2.below hbW
  have hb3 := hb3.below hbW
  refine (upto1_ahead (w.heap.size + 3) (w.heap.size + 1) _ A N C ts K m gg R n c vss R2 n2 c2 u2 _ (m1.cell 0 rfl) (m0.cell 0 rfl) hx2 hv2 hN hr2 hn hb3 hnb hK hM').mono ?_
  rintro en w3 ⟨⟨t, rfl, hS⟩, hb5⟩
  have ht := HC.out t hS.out
  rw [HQ.out] at ht
  subst ht
  go_wp2_with fail
  go_ret
  exact ⟨rfl, Below.then hb4 hb5⟩
end Go.Proofs.Ytloohkgiicgndaa
