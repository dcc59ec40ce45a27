/- Texts that belong together, one behind the other: QAa, QAb, QAc. -/
import Derived.Test.YtbfihajgjbpmaaaGreatGrnA
/- Stage 10: rows that are cloned, Split, Key. -/
namespace Go.Proofs.YtbfihajgjbpmaaaGreat
open Go.ChangeShapes Go.WideShapes Go.ChangeAt Go.RowKit
set_option linter.unusedVariables false
set_option maxRecDepth 4000

theorem slA_rows : Sl 25 1 := ⟨by kernel_rfl, fun w => by kernel_rfl⟩
theorem slA_row : Sl 46 2 := ⟨by kernel_rfl, fun w => by kernel_rfl⟩
theorem el_rowss : El 73 25 1 24 (.slice none 0 0) := ⟨Tryz.underlying73, by kernel_rfl, rfl, by omega⟩
/-- the first of a slice, with no room behind them -/
theorem slice_hm {t : TypeId} {k : Nat} (hs : Sl t k) (A : Option Addr) (n c i : Nat) (hi : i ≤ c) (wx : World) : (Instr.slice t (.slice A n c) none (some (.int .i64 (i : Int))) (some (.int .i64 (i : Int)))).run Tryz.prog wx = .ok (.slice A i i) wx := by
  rw [run_slice_hm wx t A n c hs.under .i64 .i64 (i : Int) (i : Int) (by omega) (by omega) (by omega), hs.size]
  simp only [Result.andThen, sliced, Nat.zero_mul, Nat.sub_zero, Int.toNat_natCast]
  have : (A.map fun x => x.add 0) = A := by cases A <;> simp [addr_zero]
  rw [this]
  split <;> rfl
theorem min_is (a b : Nat) (w : World) : (Builtin.min_ #[3, 3] 3 #[.int .i64 (a : Int), .int .i64 (b : Int)]).run Tryz.prog w = .ok (.int .i64 ((min a b : Nat) : Int)) w := by
  have e : (((min a b : Nat)) : Int) = if (b : Int) < a then (b : Int) else a := by split <;> omega
  rw [e]
  simp [Builtin.min_, Builtin.min2]
theorem max0_is (b : Nat) (w : World) : (Builtin.max_ #[3, 3] 3 #[.int .i64 0, .int .i64 (b : Int)]).run Tryz.prog w = .ok (.int .i64 (b : Int)) w := by
  simp [Builtin.max_, Builtin.max2]
  omega
set_option maxHeartbeats 1000000 in
theorem rwclone_any (a : Option Addr) (n cap : Nat) (cs : List Value) (w : World) (hv : SV 1 w a n cs) (hl : n ≤ 1000000) :
    Calls Tryz.prog 72 #[.slice a n cap] w fun e w' => ∃ v, e = .returned v ∧ OS 1 w' w.heap.size v n cs ∧ Below w.heap.size w w' := by
  cases a with
  | none =>
    have hn : n = 0 := by
      rcases hv.2.2 with h | ⟨b, off, h, _⟩
      · exact h
      · cases h
    subst hn
    have hz : cs = [] := List.eq_nil_of_length_eq_zero (by have := hv.1; omega)
    subst hz
    clear hv
    have hnil : ∀ wx, (binOp .eql 25 (.slice none 0 cap) (.slice none 0 0)).run Tryz.prog wx = .ok (.bool true) wx := fun wx => Lib.run_eql_slice_nil wx 25 46 none 0 cap 0 0 Tryz.underlying25
    go_enter Tryz.func72, Tryz.ntmps72
    go_wp2
    go_ret
    exact ⟨_, rfl, OS.nil _ _, Below.refl _ _⟩
  | some x =>
    have hnil : ∀ wx, (binOp .eql 25 (.slice (some x) n cap) (.slice none 0 0)).run Tryz.prog wx = .ok (.bool false) wx := fun wx => Lib.run_eql_slice_nil wx 25 46 (some x) n cap 0 0 Tryz.underlying25
    have hw1 : Below w.heap.size w (w.alloc (.cells #[] 46)) := Joins.below_alloc1 _ _
    have o0 : OS 1 (w.alloc (.cells #[] 46)) w.heap.size (.slice (some ⟨w.heap.size, 0, none⟩) 0 0) 0 [] := OS.lit (k := 1) w w.heap.size (Nat.le_refl _) [] 0 46 rfl (by simp) (by simp) _ rfl
    have hv1 := SV.below hv hw1
    go_enter Tryz.func72, Tryz.ntmps72
    go_wp2_with (at_builtin; refine append_os el_rows rfl (.tmp 5) (.tmp 6) rfl w.heap.size _ 0 [] rfl o0 (some x) n cap cs rfl hv1 (by omega) (by omega) hw1.size ?_; intro v2 w2 ho2 hb2; rw [Nat.zero_add, List.nil_append] at ho2)
    go_ret
    exact ⟨_, rfl, ho2, hw1.trans hb2⟩
set_option maxHeartbeats 1000000 in
theorem key_any (A : Option Addr) (N C K : Nat) (m g : Int) (R : Option Addr) (n c : Nat) (v : RowV) (w : World) (hv : WV w R n v) (hK : K ≤ n) (hc : n ≤ c) (hn : n ≤ maxLen) :
    Calls Tryz.prog 49 #[SS A N C K m g, .slice R n c] w fun e w' => e = .returned (.slice R K K) ∧ Below w.heap.size w w' := by
  obtain ⟨c0, c1, c2, c3⟩ := (Sx.new w A N C K m g 24)
  have hmn := min_is K n
  rw [Nat.min_eq_left hK] at hmn
  have hmx := max0_is K
  have hsl := slice_hm slA_row R n c K (by omega)
  have hb := Joins.below_alloc1 w (.cells #[.slice A N C, .int .i64 K, .int .i64 m, .int .i64 g] 24)
  go_enter Tryz.func49, Tryz.ntmps49
  go_wp2_with fail
  go_ret
  exact ⟨rfl, hb⟩
end Go.Proofs.YtbfihajgjbpmaaaGreat
/- Stage 10: Split. -/
namespace Go.Proofs.YtbfihajgjbpmaaaGreat
open Go.ChangeShapes Go.WideShapes Go.ChangeAt Go.RowKit
set_option linter.unusedVariables false
set_option maxRecDepth 4000

theorem pcA_take (a : List P9) (k : Nat) : pc (a.take k) = (pc a).take k := by unfold pc; rw [List.map_take]
theorem pcA_drop (a : List P9) (k : Nat) : pc (a.drop k) = (pc a).drop k := by unfold pc; rw [List.map_drop]
/-- granules, as they lie in memory -/
abbrev granRep : Rep (List RowV) := sliceRep rowRep []
/-- the same things, in the same blocks by another name -/
theorem OwnX.same {α : Type} {R : Rep α} {d : α} {w : World} {base : Nat} {v : Value} {xs : List α} {F F' : Nat → Prop} (h : OwnX R d w base v xs F) (h1 : ∀ b, F b → F' b) (h2 : ∀ b, F' b → F b) : OwnX R d w base v xs F' := by
  obtain ⟨cs, q1, q2, q3⟩ := h
  exact ⟨cs, q1, fun b hb hf => q2 b hb (h2 b hf), fun i hi => R.wider (q3 i hi) h1⟩
/-- some rows of a slice of them, as a granule -/
theorem gran_of {w : World} {a : Option Addr} {k : Nat} {ps : List P9} (h : SV 1 w a k (pc ps)) (hp : PR w ps) (h1 : 1 ≤ k) (h2 : k ≤ maxLen) : granRep.rep w (.slice a k k) (ps.map (·.2)) (fun b => b < w.heap.size) := by
  refine Rep.old (F := fun _ => True) granRep ⟨a, k, k, rfl, Nat.le_refl _, h2, fun ha => ?_, RVs.slR (RVs.of h hp)⟩
  subst ha
  rcases h.2.2 with h | ⟨b, off, h, _⟩
  · exact h
  · cases h
set_option maxHeartbeats 2000000 in
theorem gsplit_any (A : Option Addr) (N C : Nat) (K m : Int) (G : Nat) (R : Option Addr) (n c : Nat) (vss : List RowV) (w : World) (hr : RVs w R n vss) (hn : n ≤ 100000) (hG : 1 ≤ G) (hG2 : G ≤ 100000) :
    Calls Tryz.prog 41 #[SS A N C K m (G : Int), .slice R n c] w fun e w' => ∃ A' C', e = .returned (.slice A' (cntG G n) C') ∧ cntG G n ≤ C' ∧ C' ≤ maxLen ∧ SlR granRep [] w' A' (cntG G n) (splitL G vss) (fun _ => True) ∧ Below w.heap.size w w' := by
  obtain ⟨qs, hq1, hq2, hq3⟩ := hr.pairs
  have hlq : Hid (qs.length = n) := by have := hq1.1; rw [pc_len] at this; show qs.length = n; omega
  subst hq2
  clear hr
  have hx := Bk.new w #[.slice A N C, .int .i64 K, .int .i64 m, .int .i64 (G : Int)] 24
  have hb0 := Joins.below_alloc1 w (.cells #[.slice A N C, .int .i64 K, .int .i64 m, .int .i64 (G : Int)] 24)
  have hG1 : ¬ (G : Int) < 1 := by omega
  obtain ⟨c0, c1, c2, c3⟩ := hx.sx
  go_enter Tryz.func41, Tryz.ntmps41
  go_wp2_with fail
  clear c0 c1 c2 c3
  refine (rwclone_any R n c (pc qs) _ (SV.below hq1 hb0) (by omega)).mono ?_
  rintro e w1 ⟨v, rfl, o1, hb1⟩
  have hx := hx.below hb1
  have hp := (PR.below hq3 hb0).below hb1
  have hbw := Below.then hb0 hb1
  obtain ⟨a1, c1, rfl, hc1, hc2, sv1, -⟩ := o1.sv
  clear hq1 hq3 o1 hb0 hb1
  have hc1' : c1 ≤ 9223372036854775807 := by unfold maxLen at hc2; omega
  go_wp2_with fail
  go_loopw [5, 6] (fun o r wr => ∃ (i : Nat) (a : Option Addr) (k d : Nat), i ≤ cntG G n ∧ k = n - i * G ∧ r = .slice a k d ∧ k ≤ d ∧ d ≤ 9223372036854775807 ∧ SV 1 w1 a k (pc (qs.drop (i * G))) ∧
      OwnX granRep [] wr w1.heap.size o ((splitL G (qs.map (·.2))).take i) (fun b => b < w1.heap.size) ∧ Below w1.heap.size w1 wr) (fun _ r _ => match r with | .slice _ k _ => k | _ => 0)
  case atStart => exact ⟨0, a1, n, c1, by omega, by omega, rfl, hc1, hc1', by rw [Nat.zero_mul]; exact sv1, ⟨[], OS.nil _ _, fun b hb => by simp [Value.ownBlock] at hb, fun i hi => by simp at hi⟩, Below.refl _ _⟩
  case round =>
    clear sv1 hc1 hc1' hc2
    obtain ⟨i, a, k, d, hi, hk, rfl, hkd, hd, sv, ow, hb⟩ := hrel
    by_cases hlt : i < cntG G n
    · have h0 := (cnt_lt hG).1 hlt
      have hk0 : (0 : Int) < (k : Int) := by omega
      obtain ⟨s, hs⟩ : ∃ s, min G k = s := ⟨_, rfl⟩
      have hsZ : min (G : Int) (k : Int) = (s : Int) := by omega
      have hs1 : 1 ≤ s ∧ s ≤ k ∧ s ≤ G := by omega
      have hsl := slice_hm slA_rows a k d s (by omega)
      obtain ⟨a2, hlo, sv2⟩ := SV.slice_lo slA_rows sv s d hs1.2.1 hkd
      have hx3 := hx.low hb (by have := hx.lt; omega)
      have hgl : Hid (((qs.drop (i * G)).take s).map (·.2) = granL G (qs.map (·.2)) i) := by
        show _ = _
        unfold granL
        rw [List.map_take, List.map_drop]
        rw [← hs, hk]
        by_cases hq : G ≤ n - i * G
        · rw [Nat.min_eq_left hq]
        · rw [Nat.min_eq_right (by omega), List.take_of_length_le (by rw [List.length_drop, List.length_map, hlq.out]; omega), List.take_of_length_le (by rw [List.length_drop, List.length_map, hlq.out]; omega)]
      have hgr := gran_of (w := w1) (a := a) (k := s) (ps := (qs.drop (i * G)).take s) (by have := SV.take sv s hs1.2.1; rw [Nat.mul_one] at this; rw [pcA_take]; exact this) ((hp.drop _).take _) hs1.1 (by unfold maxLen; omega)
      rw [hgl.out] at hgr
      have hsn : Hid ((splitL G (qs.map (·.2))).take (i + 1) = (splitL G (qs.map (·.2))).take i ++ [granL G (qs.map (·.2)) i]) := by
        show _ = _
        rw [List.take_succ_eq_append_getElem (by rw [splitL_len, List.length_map, hlq.out]; exact hlt)]
        simp [splitL]
      have hk2 : Hid (k - s = n - (i + 1) * G) := by show k - s = _; rw [Nat.succ_mul]; omega
      replace hk := Lib.hid hk
      replace hs := Lib.hid hs
      obtain ⟨cs, q1, q2, q3⟩ := ow
      have hln : Hid (((splitL G (qs.map (·.2))).take i).length = i) := by show _ = _; rw [List.length_take, splitL_len, List.length_map, hlq.out]; omega
      have q1' : OS 1 wr w1.heap.size u5 i cs := by have := q1; rw [hln.out] at this; exact this
      have hba := Joins.below_alloc1 wr (.cells #[.slice a s s] 25)
      have hsv : SV 1 (wr.alloc (.cells #[.slice a s s] 25)) (some ⟨wr.heap.size, 0, none⟩) 1 [.slice a s s] := SV.lit' (k := 1) wr [.slice a s s] 1 25 rfl (by simp [Value.oneCell']) _ rfl
      have hbase : w1.heap.size ≤ (wr.alloc (.cells #[.slice a s s] 25)).heap.size := by have := hb.size; rw [heap_alloc]; omega
      obtain ⟨c0, c1, c2, c3⟩ := hx3.sx
      have hin : i ≤ 100000 := by have := hlt; have : i * 1 ≤ i * G := Nat.mul_le_mul_left i hG; omega
      go_wp2_with (at_builtin; refine append_os2 el_rowss rfl (.tmp 21) (.tmp 26) rfl w1.heap.size u5 i cs rfl (q1'.alloc _) _ 1 1 [.slice a s s] rfl hsv (by omega) (by omega) hbase ?_; intro v2 w2 ho2 hb2 hk3 hst2)
      clear c0 c1 c2 c3 hlo hsl hsZ
      have ow2 := OwnX.snoc (R := granRep) (d := []) (v := u5) (xs := (splitL G (qs.map (·.2))).take i) (x := granL G (qs.map (·.2)) i) (F := fun b => b < w1.heap.size) (cs := cs) (by rw [hln.out]; exact ho2) (by rw [hln.out]; have := q1'.1; omega) q2
        (fun y hy => Rep.below granRep (q3 y hy) hba) (Rep.below granRep (Rep.low granRep hgr hb (fun b h => h)) hba) hk3 hst2
      have ow3 := OwnX.same ow2 (F' := fun b => b < w1.heap.size) (fun b h => h.1) (fun b h => ⟨h, by have := hbase; omega⟩)
      have hb3 : Below w1.heap.size w1 w2 := (hb.trans (hba.mono hb.size)).trans hb2
      rw [← hsn.out] at ow3
      clear ow2 q1 q1' q2 q3 ho2 hk3 hst2 hsv hbase hb2 hba
      go_roundw
      case rel => exact ⟨i + 1, a2, k - s, d - s, by omega, hk2.out, rfl, by omega, by omega, by
        have := sv2
        rw [Nat.mul_one, ← pcA_drop, List.drop_drop] at this
        have e : qs.drop (i * G + s) = qs.drop ((i + 1) * G) := by
          rw [Nat.succ_mul]
          by_cases hq : G ≤ k
          · rw [← hs.out, Nat.min_eq_left hq]
          · rw [List.drop_eq_nil_of_le (by rw [hlq.out]; have := hs.out; have := hk.out; omega), List.drop_eq_nil_of_le (by rw [hlq.out]; have := hs.out; have := hk.out; omega)]
        rw [← e]; exact this, ow3, hb3⟩
      case measure => show k - s < k; omega
    · have hk0 : k = 0 := by
        have : ¬ i * G < n := fun h => hlt ((cnt_lt hG).2 h)
        omega
      subst hk0
      obtain rfl : i = cntG G n := by omega
      rw [List.take_of_length_le (by rw [splitL_len, List.length_map, hlq.out]; omega)] at ow
      obtain ⟨A', C', e1, e2, e3, e4, e5⟩ := ow.slR
      rw [splitL_len, List.length_map, hlq.out] at e1 e2 e5
      subst e1
      have hend := Below.trans hbw (hb.mono (by have := hbw.size; omega))
      clear ow sv hk
      go_wp2_with fail
      go_ret
      exact ⟨A', C', rfl, e2, e3, e5.wider (fun _ _ => trivial), hend⟩
end Go.Proofs.YtbfihajgjbpmaaaGreat
/- Stage 10: Marks. -/
namespace Go.Proofs.YtbfihajgjbpmaaaGreat
open Go.ChangeShapes Go.WideShapes Go.ChangeAt Go.RowKit
set_option linter.unusedVariables false
set_option maxRecDepth 4000

theorem long_at {vss : List RowV} {K : Nat} (hF : ∀ v ∈ vss, K ≤ v.length) {i : Nat} (hi : i < vss.length) : K ≤ (vss.getD i []).length := by
  have e : vss.getD i [] = vss[i] := by simp [List.getD, hi]
  rw [e]; exact hF _ (List.getElem_mem _)
/-- the first values of a row, as a row -/
theorem key_row {w : World} {A : Option Addr} {L K : Nat} {v : RowV} (h : WV w A L v) (hK : K ≤ L) (hL : L ≤ maxLen) (hn : A = none → L = 0) : RowAt w (.slice A K K) (v.take K) :=
  ⟨A, K, K, rfl, Nat.le_refl _, by omega, by rw [List.length_take]; have := WV.len h; omega, WV.takes h K hK, fun ha => by have := hn ha; omega⟩
set_option maxHeartbeats 2000000 in
theorem gmarks_any (A : Option Addr) (N C : Nat) (K : Nat) (m : Int) (G : Nat) (R : Option Addr) (n c : Nat) (vss : List RowV) (w : World) (hr : RVs w R n vss) (hn : n ≤ 100000) (hG : 1 ≤ G) (hG2 : G ≤ 100000) (hF : ∀ v ∈ vss, K ≤ v.length) :
    Calls Tryz.prog 58 #[SS A N C K m (G : Int), .slice R n c] w fun e w' => ∃ A' C', e = .returned (.slice A' (cntG G n) C') ∧ cntG G n ≤ C' ∧ C' ≤ maxLen ∧ RVs w' A' (cntG G n) (marksL G K vss) ∧ Below w.heap.size w w' := by
  have hl := Lib.hid hr.1
  have HF := Lib.hid hF
  have hx := Bk.new w #[.slice A N C, .int .i64 K, .int .i64 m, .int .i64 (G : Int)] 24
  have hb0 := Joins.below_alloc1 w (.cells #[.slice A N C, .int .i64 K, .int .i64 m, .int .i64 (G : Int)] 24)
  obtain ⟨c0, c1, c2, c3⟩ := hx.sx
  go_enter Tryz.func58, Tryz.ntmps58
  go_wp2_with fail
  clear c0 c1 c2 c3
  refine (gsplit_any A N C K m G R n c vss _ (hr.below hb0) hn hG hG2).mono ?_
  rintro e w1 ⟨A1, C1, rfl, hc1, hc2, gr, hb1⟩
  have hx := hx.below hb1
  have hbw := Below.then hb0 hb1
  clear hr hb0 hb1 hF
  obtain ⟨q, hq⟩ : ∃ q, cntG G n = q := ⟨_, rfl⟩
  have hqn : q ≤ 100000 := by
    rw [← hq]
    by_cases h0 : cntG G n = 0
    · omega
    · have := (cnt_lt (i := cntG G n - 1) (n := n) hG).1 (by omega)
      have h2 : (cntG G n - 1) * 1 ≤ (cntG G n - 1) * G := Nat.mul_le_mul_left _ hG
      omega
  rw [hq] at gr hc1 ⊢
  have HQ := Lib.hid hq
  clear hq
  go_wp2_with fail
  go_loopw [5, 12] (fun o i wr => ∃ (j : Nat) (ms : List P9), j ≤ q ∧ i = .int .i64 (j : Int) ∧ Hid (ms.map (·.2) = (marksL G K vss).take j) ∧ PR w1 ms ∧ OS 1 wr w1.heap.size o j (pc ms) ∧ Below w1.heap.size w1 wr) (fun _ i _ => q - (intOf i).toNat)
  case atStart => exact ⟨0, [], by omega, rfl, Lib.hid (by simp), (fun p hp => by cases hp), OS.nil _ _, Below.refl _ _⟩
  case round =>
    obtain ⟨j, ms, hj, rfl, hms, hpm, ho, hb⟩ := hrel
    by_cases hlt : j < q
    · have hji : (j : Int) < (q : Int) := by omega
      obtain ⟨b, off, u, rfl, hc, hu⟩ := gr.at j hlt
      rw [splitL_at (by rw [hl.out, HQ.out]; exact hlt)] at hu
      have hgl := gran_in hG (l := vss) (i := j) (by rw [hl.out, HQ.out]; exact hlt)
      obtain ⟨A2, L2, C2, rfl, g1, g2, g3, gs⟩ := hu
      obtain ⟨b2, off2, u2, rfl, hc2, hu2⟩ := gs.at 0 (by have := gs.1; omega)
      have hg0 := gran_at (G := G) (l := vss) (i := j) (k := 0) ([] : RowV) (by omega)
      rw [hg0] at hu2
      have hL2 : (0 : Int) < (L2 : Int) := by have := gs.1; omega
      obtain ⟨A3, L3, C3, rfl, r1, r2, r3, r4, r5⟩ := hu2.1
      have hi0 : j * G < vss.length := by have := (cnt_lt (i := j) (n := n) hG).1 (by rw [HQ.out]; exact hlt); rw [hl.out]; exact this
      have hK3 : K ≤ L3 := by have := long_at HF.out hi0; rw [Nat.add_zero] at r3; omega
      have hkr := key_row r4 hK3 (by omega) (fun ha => by have := r5 ha; omega)
      have HSN : Hid ((marksL G K vss).take (j + 1) = (marksL G K vss).take j ++ [(vss.getD (j * G) []).take K]) := by
        show _ = _
        rw [List.take_succ_eq_append_getElem (by rw [marksL_len, hl.out, HQ.out]; exact hlt)]
        simp [marksL]
      rw [Nat.add_zero] at hkr r4
      have cc := key_any A N C K m (G : Int) A3 L3 C3 (vss.getD (j * G) []) wr.drew (SV.below r4 hb.drew) hK3 r1 (by omega)
      generalize vss.getD (j * G) [] = rj at cc HSN hkr
      have hc := keepc hc hb
      have hc2 := keepc hc2 hb
      rw [Nat.add_zero] at hc2
      obtain ⟨c0, c1, c2, c3⟩ := (hx.low hb (by have := hx.lt; omega)).sx
      clear gs hu2 hgl hg0 r3 r4 r5 g2 g3
      go_wp2_with fail
      refine wp_region_noPanic ?_
      refine region_g 5 (Ext (World.drew _)) (by kernel_rfl) (Ext.refl _) (fun hS => ?_)
      refine take_w (i := 0) (v := ?_) (some 16) rfl (by kernel_rfl) rfl (fun _ _ _ h => h) (Or.inl ⟨by rfl, ?_⟩) hS ?_
      rotate_left
      · (intro wq hq; go_simp); first | done | with_reducible rfl
      try simp only [Act.put, List.setIfInBounds_toArray, List.set_cons_zero, List.set_cons_succ]
      replace hS := Till.list 0 hS
      refine take_g (i := 1) (v := ?_) [1] (some 17) rfl (by kernel_rfl) rfl (fun _ _ _ h => h) (Or.inl ⟨by rfl, ?_⟩) hS ?_
      rotate_left
      · (intro wq hq; have q0 := hq _ _ _ c0; have q1 := hq _ _ _ c1; have q2 := hq _ _ _ c2; have q3 := hq _ _ _ c3; have q4 := hq _ _ _ hc2; go_simp); first | done | with_reducible rfl
      try simp only [Act.put, List.setIfInBounds_toArray, List.set_cons_zero, List.set_cons_succ]
      replace hS := Till.list 1 hS
      refine take_w (i := 2) (v := ?_) (some 18) rfl (by kernel_rfl) rfl (fun _ _ _ h => h) (Or.inl ⟨by rfl, ?_⟩) hS ?_
      rotate_left
      · (intro wq hq; go_simp); first | done | with_reducible rfl
      try simp only [Act.put, List.setIfInBounds_toArray, List.set_cons_zero, List.set_cons_succ]
      replace hS := Till.list 2 hS
      refine take_g (i := 3) (v := .pointer (some ⟨b2, off2, none⟩)) [4, 3] (some 19) rfl (by kernel_rfl) rfl (fun _ _ _ h => h) (Or.inl ⟨by rfl, ?_⟩) hS ?_
      · (intro wq hq; (go_simp; intro h; exfalso; omega))
      try simp only [Act.put, List.setIfInBounds_toArray, List.set_cons_zero, List.set_cons_succ]
      replace hS := Till.list 3 hS
      refine take_g (i := 4) (v := ?_) [4] (some 20) rfl (by kernel_rfl) rfl (fun _ _ _ h => h) (Or.inl ⟨by rfl, ?_⟩) hS ?_
      rotate_left
      · (intro wq hq; have q0 := hq _ _ _ c0; have q1 := hq _ _ _ c1; have q2 := hq _ _ _ c2; have q3 := hq _ _ _ c3; have q4 := hq _ _ _ hc2; go_simp); first | done | with_reducible rfl
      try simp only [Act.put, List.setIfInBounds_toArray, List.set_cons_zero, List.set_cons_succ]
      replace hS := Till.list 4 hS
      refine ready_g (rs := [5]) (by kernel_rfl) (by simp) ?_
      refine AllReadyG.cons rfl (fun Kont hK => ?_) AllReadyG.nil
      go_simp
      refine cc.mono ?_
      rintro e w5 ⟨rfl, hb5⟩
      refine hK.out _ _ (Or.inl (by kernel_rfl)) (fun hS0 => ?_)
      clear hK Kont
      try simp only [Act.put, List.setIfInBounds_toArray, List.set_cons_zero, List.set_cons_succ]
      clear hS
      have hS := hS0
      clear hS0
      have hb2 := Below.then hb.drew hb5
      have ho5 := OS.below (w := wr.drew) ho hb5
      clear c0 c1 c2 c3 cc hc hc2 ho hb hb5
      have ho6 := ho5.alloc (.cells #[.slice A3 K K] 46)
      have hsv : SV 1 (w5.alloc (.cells #[.slice A3 K K] 46)) (some ⟨w5.heap.size, 0, none⟩) 1 (pc [((A3, K, K), rj.take K)]) := SV.lit' (k := 1) w5 [.slice A3 K K] 1 46 rfl (by simp [Value.oneCell']) _ rfl
      have hba := Joins.below_alloc1 w5 (.cells #[.slice A3 K K] 46)
      have hbase : w1.heap.size ≤ (w5.alloc (.cells #[.slice A3 K K] 46)).heap.size := by have := hb2.size; rw [heap_alloc]; omega
      refine ready_g (rs := [6]) (by kernel_rfl) (by simp) ?_
      refine AllReadyG.cons rfl (fun Kont hK => ?_) AllReadyG.nil
      go_simp
      refine hK.out _ _ (Or.inl (by kernel_rfl)) (fun hS0 => ?_)
      clear hK Kont
      try simp only [Act.put, List.setIfInBounds_toArray, List.set_cons_zero, List.set_cons_succ]
      clear hS
      have hS := hS0
      clear hS0
      refine ready_g (rs := [7]) (by kernel_rfl) (by simp) ?_
      refine AllReadyG.cons rfl (fun Kont hK => ?_) AllReadyG.nil
      refine want (by kernel_rfl) ?_
      refine wp_append_os2 el_rows (some 23) rfl (.tmp 16) (.tmp 22) rfl w1.heap.size u5 j _ rfl ho6 _ 1 1 (pc [((A3, K, K), rj.take K)]) rfl hsv (by omega) (by omega) hbase ?_
      intro v6 w6 ho7 hb6 hk6 hst6
      refine hK.out _ _ (Or.inl (by kernel_rfl)) (fun hS0 => ?_)
      clear hK Kont
      try simp only [Act.put, List.setIfInBounds_toArray, List.set_cons_zero, List.set_cons_succ]
      clear hS
      have hS := hS0
      clear hS0
      rw [← pc_app] at ho7
      have hp7 : PR w1 (ms ++ [((A3, K, K), rj.take K)]) := PR.app hpm (fun p hp => by rw [List.mem_singleton.1 hp]; exact hkr)
      have hm7 : Hid ((ms ++ [((A3, K, K), rj.take K)]).map (·.2) = (marksL G K vss).take (j + 1)) := by show _ = _; rw [List.map_append, hms.out, HSN.out]; rfl
      have hb7 := (hb2.trans (hba.mono hb2.size)).trans hb6
      generalize ms ++ [((A3, K, K), rj.take K)] = ms2 at ho7 hp7 hm7
      clear ho6 hsv hba hbase hb2 hb6 hk6 hst6 ho5 hpm hms
      refine take_w (i := 8) (v := ?_) (some 5) rfl (by kernel_rfl) rfl (fun _ _ _ h => h) (Or.inl ⟨by rfl, ?_⟩) hS ?_
      rotate_left
      · (intro wq hq; go_simp); first | done | with_reducible rfl
      try simp only [Act.put, List.setIfInBounds_toArray, List.set_cons_zero, List.set_cons_succ]
      replace hS := Till.list 8 hS
      refine done_g (by kernel_rfl) (NoPanic.normal ?_) _
      clear hS
      go_wp2_with fail
      go_roundw
      case rel => exact ⟨j + 1, ms2, by omega, by go_num, hm7, hp7, ho7, hb7⟩
      case measure => simp [intOf]; omega
    · have hji : ¬ (j : Int) < (q : Int) := by omega
      obtain rfl : j = q := by omega
      have hms2 : Hid (ms.map (·.2) = marksL G K vss) := by
        show _ = _
        rw [hms.out, List.take_of_length_le (by rw [marksL_len, hl.out, HQ.out]; omega)]
      obtain ⟨a7, c7, rfl, h71, h72, sv7, -⟩ := ho.sv
      have hrv := RVs.of sv7 (hpm.below hb)
      rw [hms2.out] at hrv
      have hend := Below.trans hbw (hb.mono (by have := hbw.size; omega))
      clear hpm hms hms2 ho sv7 gr
      go_wp2_with fail
      go_ret
      rw [HQ.out]
      exact ⟨a7, c7, rfl, h71, h72, hrv, hend⟩
end Go.Proofs.YtbfihajgjbpmaaaGreat
