/- Texts that belong together, one behind the other: QAd, QAe. -/
import Derived.Test.YtbfihajgjbpmaaaGreatGrnA
import Derived.Test.YtbfihajgjbpmaaaGreatOrdK
/- Stage 10: across, Column. -/
namespace Go.Proofs.YtbfihajgjbpmaaaGreat
open Go.ChangeShapes Go.WideShapes Go.ChangeAt Go.RowKit
set_option linter.unusedVariables false
set_option maxRecDepth 4000

theorem madeV_cells (n : Nat) : madeCells #[Value.int .i64 0, Value.string ⟨#[]⟩] (n * 2) = (vcells (List.replicate n v0)).toArray := by
  refine Array.ext' ?_
  refine List.ext_getElem? (fun i => ?_)
  have h := vcells_at (List.replicate n v0) (i / 2)
  rcases Nat.mod_two_eq_zero_or_one i with h0 | h1
  · rw [show 2 * (i / 2) = i by omega] at h
    simp only [madeCells, Array.toList_map, Array.toList_range, List.getElem?_map]
    rw [h.1]
    by_cases hi : i < n * 2
    · simp [hi, h0, show i / 2 < n by omega]
    · simp [hi, show ¬ i / 2 < n by omega]
  · rw [show 2 * (i / 2) + 1 = i by omega] at h
    simp only [madeCells, Array.toList_map, Array.toList_range, List.getElem?_map]
    rw [h.2]
    by_cases hi : i < n * 2
    · simp [hi, h1, show i / 2 < n by omega]
    · simp [hi, show ¬ i / 2 < n by omega]
theorem infoA_val : (Tryz.prog.info? 62).map (fun i => (i.zero, i.size, i.bytes)) = some (some (.agg #[.int .i64 0, .string ⟨#[]⟩]), 2, 24) := by kernel_rfl
/-- an empty slice of values with room for n -/
theorem make_vals0 (N : Nat) (h : N ≤ 1000000) (w : World) : (Instr.makeSlice 45 (.int .i64 0) (.int .i64 (N : Int))).run Tryz.prog w = .ok (.slice (some ⟨w.heap.size, 0, none⟩) 0 N) (w.alloc (.cells (vcells (List.replicate N v0)).toArray 62)) := by
  obtain ⟨i, hi, hzz⟩ := Option.map_eq_some_iff.1 infoA_val
  simp only [Prod.mk.injEq] at hzz
  obtain ⟨hz, hs, hb⟩ := hzz
  have hr := run_make (P := Tryz.prog) w 45 62 i _ Tryz.underlying45 hi hz .i64 .i64 0 (N : Int) (by omega) (by omega) (by rw [hb]; omega) (by omega)
  rw [Int.toNat_natCast, hs] at hr
  rw [hr]
  have : (Value.agg #[.int .i64 0, .string ⟨#[]⟩]).cells = #[.int .i64 0, .string ⟨#[]⟩] := rfl
  rw [this, madeV_cells]
  rfl
theorem OS.room (w : World) (N : Nat) (h : N ≤ maxLen) : OS 2 (w.alloc (.cells (vcells (List.replicate N v0)).toArray 62)) w.heap.size (.slice (some ⟨w.heap.size, 0, none⟩) 0 N) 0 [] :=
  ⟨by simp, by simp, .inr ⟨w.heap.size, N, _, 62, rfl, Nat.le_refl _, heap_alloc_new w _, Nat.zero_le _, h, by simp [vcells_len], by simp⟩⟩
/-- the first values of a column -/
def colT (l : List RowV) (k : Nat) (j : Nat) : List (Int × ByteArray) := (l.take j).map fun r => r.getD k v0
theorem colT_snoc {l : List RowV} {j : Nat} (k : Nat) (h : j < l.length) : colT l k (j + 1) = colT l k j ++ [(l.getD j []).getD k v0] := by
  unfold colT
  rw [List.take_succ_eq_append_getElem h, List.map_append]
  simp [List.getD, h]
theorem colT_all {l : List RowV} {k : Nat} (h : ∀ x, x < l.length → k < (l.getD x []).length) : colT l k l.length = colL l (k : Int) := by
  rw [colL_yes (fun r hr => by
    obtain ⟨x, hx, rfl⟩ := List.mem_iff_getElem.1 hr
    have := h x hx
    simp [List.getD, hx] at this
    omega)]
  simp [colT]
theorem colL_none {l : List RowV} {k : Int} {x : Nat} (hx : x < l.length) (h : ¬ (0 ≤ k ∧ k < ((l.getD x []).length : Int))) : colL l k = [] := by
  have e : l.getD x [] = l[x] := by simp [List.getD, hx]
  rw [e] at h
  exact colL_no (List.getElem_mem hx) h
theorem twoA_one (a : Int) (s : ByteArray) : ∀ u ∈ ([Value.int .i64 a, Value.string s] : List Value), u.oneCell' = true := by
  intro u hu
  simp at hu
  rcases hu with rfl | rfl <;> rfl
set_option maxHeartbeats 2000000 in
theorem acrossr_any (R : Option Addr) (n c : Nat) (vss : List RowV) (at0 : Int) (w : World) (hr : RVs w R n vss) (hn : n ≤ 100000) :
    Calls Tryz.prog 104 #[.slice R n c, .int .i64 at0] w fun e w' => ∃ v, e = .returned v ∧ OS 2 w' w.heap.size v (colL vss at0).length (vcells (colL vss at0)) ∧ Below w.heap.size w w' := by
  have hl := Lib.hid hr.1
  have hmk := make_vals0 n (by omega)
  have o0 := OS.room w n (by unfold maxLen; omega)
  have hb0 := Joins.below_alloc1 w (.cells (vcells (List.replicate n v0)).toArray 62)
  go_enter Tryz.func104, Tryz.ntmps104
  go_wp2_with fail
  go_loopw [5, 13] (fun o i wr => ∃ (j : Nat), j ≤ n ∧ i = .int .i64 (j : Int) ∧ OS 2 wr w.heap.size o j (vcells (colT vss at0.toNat j)) ∧ Hid (∀ x, x < j → 0 ≤ at0 ∧ at0 < ((vss.getD x []).length : Int)) ∧ Below w.heap.size w wr) (fun _ i _ => n - (intOf i).toNat)
  case atStart => exact ⟨0, by omega, rfl, o0, Lib.hid (fun x hx => by omega), hb0⟩
  case round =>
    clear o0 hb0 hmk
    obtain ⟨j, hj, rfl, ho, HB, hb⟩ := hrel
    by_cases hlt : j < n
    · have hji : (j : Int) < (n : Int) := by omega
      obtain ⟨b, off, A1, L1, C1, rfl, hc, hL1, hw1⟩ := hr.at j hlt
      have hc := keepc hc hb
      have hw1 := SV.below hw1 hb
      by_cases hat : 0 ≤ at0 ∧ at0 < (L1 : Int)
      · obtain ⟨k, rfl⟩ : ∃ k : Nat, at0 = (k : Int) := ⟨at0.toNat, by omega⟩
        have hk : k < L1 := by omega
        have hl1 := WV.len hw1
        obtain ⟨b1, off1, rfl, hd1, hd2⟩ := WV.at hw1 k hk
        have HS := Lib.hid (colT_snoc k (l := vss) (j := j) (by rw [hl.out]; exact hlt))
        have HB2 : Hid (∀ x, x < j + 1 → 0 ≤ (k : Int) ∧ (k : Int) < ((vss.getD x []).length : Int)) := Lib.hid (fun x hx => by
          by_cases hxj : x < j
          · exact HB.out x hxj
          · obtain rfl : x = j := by omega
            rw [hl1]; exact hat)
        rw [Int.toNat_natCast] at ho
        generalize (vss.getD j []).getD k v0 = y at hd1 hd2 HS
        have hk1 : ¬ (k : Int) < 0 := by omega
        have hk2 : ¬ (k : Int) ≥ (L1 : Int) := by omega
        clear hw1 HB
        go_wp2_with (at_builtin; refine append_os2 el_vals rfl (.tmp 25) (.tmp 30) rfl w.heap.size u5 j _ rfl (ho.alloc _) _ 1 1 [.int .i64 y.1, .string y.2] rfl (SV.lit' (k := 2) _ [.int .i64 y.1, .string y.2] 1 62 rfl (twoA_one _ _) _ rfl) (by omega) (by omega) (by have := hb.size; rw [heap_alloc]; omega) ?_; intro v2 w2 ho2 hb2 hk3 hst2)
        have ho3 : OS 2 w2 w.heap.size v2 (j + 1) (vcells (colT vss ((k : Int)).toNat (j + 1))) := by
          rw [Int.toNat_natCast, HS.out, vcells_app]
          exact ho2
        have hb3 := (hb.alloc hb.size (.cells #[.int .i64 y.1, .string y.2] 62)).trans hb2
        clear ho ho2 hb2 hk3 hst2 hd1 hd2 hc
        go_roundw
        case rel => exact ⟨j + 1, by omega, by go_num, ho3, HB2, hb3⟩
        case measure => simp [intOf]; omega
      · have HE : Hid (colL vss at0 = []) := Lib.hid (colL_none (x := j) (by rw [hl.out]; exact hlt) (by rw [WV.len hw1]; exact hat))
        clear ho
        by_cases h0 : at0 < 0
        · go_wp2_with fail
          go_ret
          rw [HE.out]
          exact ⟨_, rfl, OS.nil _ _, hb⟩
        · have hk2 : at0 ≥ (L1 : Int) := by omega
          go_wp2_with fail
          go_ret
          rw [HE.out]
          exact ⟨_, rfl, OS.nil _ _, hb⟩
    · have hji : ¬ (j : Int) < (n : Int) := by omega
      obtain rfl : j = n := by omega
      have HE : Hid (colT vss at0.toNat j = colL vss at0) := by
        show _ = _
        by_cases h0 : 0 ≤ at0
        · obtain ⟨k, rfl⟩ : ∃ k : Nat, at0 = (k : Int) := ⟨at0.toNat, by omega⟩
          have := colT_all (l := vss) (k := k) (fun x hx => by have := HB.out x (by rw [← hl.out]; exact hx); omega)
          rw [hl.out] at this
          rw [Int.toNat_natCast]; exact this
        · have hj0 : j = 0 := by
            by_cases hj0 : j = 0
            · exact hj0
            · exact absurd (HB.out 0 (by omega)).1 h0
          subst hj0
          have : vss = [] := List.eq_nil_of_length_eq_zero hl.out
          rw [this]
          simp [colT, colL]
      have hlen : Hid ((colL vss at0).length = j) := by show _ = _; rw [← HE.out]; unfold colT; rw [List.length_map, List.length_take, hl.out, Nat.min_self]
      rw [HE.out] at ho
      go_wp2_with fail
      go_ret
      rw [hlen.out]
      exact ⟨u5, rfl, ho, hb⟩
set_option maxHeartbeats 2000000 in
theorem acrossc_any (R : Option Addr) (n c : Nat) (vss : List RowV) (at0 : Int) (w : World) (hr : RVs w R n vss) (hn : n ≤ 100000) :
    Calls Tryz.prog 124 #[.slice R n c, .int .i64 at0] w fun e w' => ∃ v, e = .returned v ∧ OS 2 w' w.heap.size v (colL vss at0).length (vcells (colL vss at0)) ∧ Below w.heap.size w w' := by
  have hl := Lib.hid hr.1
  have hmk := make_vals0 n (by omega)
  have o0 := OS.room w n (by unfold maxLen; omega)
  have hb0 := Joins.below_alloc1 w (.cells (vcells (List.replicate n v0)).toArray 62)
  go_enter Tryz.func124, Tryz.ntmps124
  go_wp2_with fail
  go_loopw [5, 13] (fun o i wr => ∃ (j : Nat), j ≤ n ∧ i = .int .i64 (j : Int) ∧ OS 2 wr w.heap.size o j (vcells (colT vss at0.toNat j)) ∧ Hid (∀ x, x < j → 0 ≤ at0 ∧ at0 < ((vss.getD x []).length : Int)) ∧ Below w.heap.size w wr) (fun _ i _ => n - (intOf i).toNat)
  case atStart => exact ⟨0, by omega, rfl, o0, Lib.hid (fun x hx => by omega), hb0⟩
  case round =>
    clear o0 hb0 hmk
    obtain ⟨j, hj, rfl, ho, HB, hb⟩ := hrel
    by_cases hlt : j < n
    · have hji : (j : Int) < (n : Int) := by omega
      obtain ⟨b, off, A1, L1, C1, rfl, hc, hL1, hw1⟩ := hr.at j hlt
      have hc := keepc hc hb
      have hw1 := SV.below hw1 hb
      by_cases hat : 0 ≤ at0 ∧ at0 < (L1 : Int)
      · obtain ⟨k, rfl⟩ : ∃ k : Nat, at0 = (k : Int) := ⟨at0.toNat, by omega⟩
        have hk : k < L1 := by omega
        have hl1 := WV.len hw1
        obtain ⟨b1, off1, rfl, hd1, hd2⟩ := WV.at hw1 k hk
        have HS := Lib.hid (colT_snoc k (l := vss) (j := j) (by rw [hl.out]; exact hlt))
        have HB2 : Hid (∀ x, x < j + 1 → 0 ≤ (k : Int) ∧ (k : Int) < ((vss.getD x []).length : Int)) := Lib.hid (fun x hx => by
          by_cases hxj : x < j
          · exact HB.out x hxj
          · obtain rfl : x = j := by omega
            rw [hl1]; exact hat)
        rw [Int.toNat_natCast] at ho
        generalize (vss.getD j []).getD k v0 = y at hd1 hd2 HS
        have hk1 : ¬ (k : Int) < 0 := by omega
        have hk2 : ¬ (k : Int) ≥ (L1 : Int) := by omega
        clear hw1 HB
        go_wp2_with (at_builtin; refine append_os2 el_vals rfl (.tmp 25) (.tmp 30) rfl w.heap.size u5 j _ rfl (ho.alloc _) _ 1 1 [.int .i64 y.1, .string y.2] rfl (SV.lit' (k := 2) _ [.int .i64 y.1, .string y.2] 1 62 rfl (twoA_one _ _) _ rfl) (by omega) (by omega) (by have := hb.size; rw [heap_alloc]; omega) ?_; intro v2 w2 ho2 hb2 hk3 hst2)
        have ho3 : OS 2 w2 w.heap.size v2 (j + 1) (vcells (colT vss ((k : Int)).toNat (j + 1))) := by
          rw [Int.toNat_natCast, HS.out, vcells_app]
          exact ho2
        have hb3 := (hb.alloc hb.size (.cells #[.int .i64 y.1, .string y.2] 62)).trans hb2
        clear ho ho2 hb2 hk3 hst2 hd1 hd2 hc
        go_roundw
        case rel => exact ⟨j + 1, by omega, by go_num, ho3, HB2, hb3⟩
        case measure => simp [intOf]; omega
      · have HE : Hid (colL vss at0 = []) := Lib.hid (colL_none (x := j) (by rw [hl.out]; exact hlt) (by rw [WV.len hw1]; exact hat))
        clear ho
        by_cases h0 : at0 < 0
        · go_wp2_with fail
          go_ret
          rw [HE.out]
          exact ⟨_, rfl, OS.nil _ _, hb⟩
        · have hk2 : at0 ≥ (L1 : Int) := by omega
          go_wp2_with fail
          go_ret
          rw [HE.out]
          exact ⟨_, rfl, OS.nil _ _, hb⟩
    · have hji : ¬ (j : Int) < (n : Int) := by omega
      obtain rfl : j = n := by omega
      have HE : Hid (colT vss at0.toNat j = colL vss at0) := by
        show _ = _
        by_cases h0 : 0 ≤ at0
        · obtain ⟨k, rfl⟩ : ∃ k : Nat, at0 = (k : Int) := ⟨at0.toNat, by omega⟩
          have := colT_all (l := vss) (k := k) (fun x hx => by have := HB.out x (by rw [← hl.out]; exact hx); omega)
          rw [hl.out] at this
          rw [Int.toNat_natCast]; exact this
        · have hj0 : j = 0 := by
            by_cases hj0 : j = 0
            · exact hj0
            · exact absurd (HB.out 0 (by omega)).1 h0
          subst hj0
          have : vss = [] := List.eq_nil_of_length_eq_zero hl.out
          rw [this]
          simp [colT, colL]
      have hlen : Hid ((colL vss at0).length = j) := by show _ = _; rw [← HE.out]; unfold colT; rw [List.length_map, List.length_take, hl.out, Nat.min_self]
      rw [HE.out] at ho
      go_wp2_with fail
      go_ret
      rw [hlen.out]
      exact ⟨u5, rfl, ho, hb⟩
set_option maxHeartbeats 1000000 in
theorem gcolumn_any (R : Option Addr) (n c : Nat) (vss : List RowV) (at0 : Int) (w : World) (hr : RVs w R n vss) (hn : n ≤ 100000) :
    Calls Tryz.prog 89 #[.slice R n c, .int .i64 at0] w fun e w' => ∃ v, e = .returned v ∧ OS 2 w' w.heap.size v (colL vss at0).length (vcells (colL vss at0)) ∧ Below w.heap.size w w' := by
  go_enter Tryz.func89, Tryz.ntmps89
  go_wp2_with fail
  refine (acrossr_any R n c vss at0 _ hr hn).mono ?_
  rintro e w1 ⟨v, rfl, ho, hb⟩
  go_wp2_with fail
  go_ret
  exact ⟨v, rfl, ho, hb⟩
end Go.Proofs.YtbfihajgjbpmaaaGreat
/- Stage 10: Rows. -/
namespace Go.Proofs.YtbfihajgjbpmaaaGreat
open Go.ChangeShapes Go.WideShapes Go.ChangeAt Go.RowKit
set_option linter.unusedVariables false
set_option maxRecDepth 4000

/-- rows that stand in a block so far, the rest of it empty -/
def pcF (ps : List P9) (N : Nat) : Array Value := (pc ps ++ List.replicate (N - ps.length) (Value.slice none 0 0)).toArray
theorem pcF_nil (N : Nat) : pcF [] N = (List.replicate N (Value.slice none 0 0)).toArray := by simp [pcF, pc]
theorem pcF_at {ps : List P9} {N : Nat} (h : ps.length < N) : (pcF ps N)[ps.length]? = some (.slice none 0 0) := by
  unfold pcF
  rw [List.getElem?_toArray, List.getElem?_append_right (by rw [pc_len]; omega), pc_len, Nat.sub_self, List.getElem?_replicate, if_pos (by omega)]
theorem pcF_set {ps : List P9} {N : Nat} (p : P9) (h : ps.length < N) : (pcF ps N).setIfInBounds ps.length (sV p.1) = pcF (ps ++ [p]) N := by
  obtain ⟨k, hk⟩ : ∃ k, N - ps.length = k + 1 := ⟨N - ps.length - 1, by omega⟩
  have e : N - (ps ++ [p]).length = k := by rw [List.length_append, List.length_singleton]; omega
  unfold pcF
  rw [e, hk, List.replicate_succ, List.setIfInBounds_toArray]
  congr 1
  rw [List.set_append_right _ _ (by rw [pc_len]; omega), pc_len, Nat.sub_self, List.set_cons_zero, pc_app, List.append_assoc]
  rfl
theorem pcF_full {w : World} {g N : Nat} {ps : List P9} {T : TypeId} (h : Bk w g (pcF ps N) T) (hl : ps.length = N) : SV 1 w (some ⟨g, 0, none⟩) N (pc ps) := by
  refine ⟨by rw [pc_len]; omega, pc_one _, .inr ⟨g, 0, rfl, fun i u hi => ?_⟩⟩
  rw [Nat.zero_add]
  refine h.cell i ?_
  unfold pcF
  rw [List.getElem?_toArray, List.getElem?_append_left (List.getElem?_eq_some_iff.1 hi).1]
  exact hi
/-- columns that are of one length, some -/
def OkC (cols : List RowV) : Prop := cols ≠ [] ∧ ∀ x, x < cols.length → (cols.getD x []).length = (cols.getD 0 []).length
/-- what Rows tells -/
def RowsE (w w' : World) (cols : List RowV) (e : Ending) : Prop :=
  ((OkC cols ∧ ∃ A C, e = .returned (.tuple #[.slice A (cols.getD 0 []).length C, .bool true]) ∧ (cols.getD 0 []).length ≤ C ∧ C ≤ maxLen ∧ (A = none → C = 0) ∧ RVs w' A (cols.getD 0 []).length (rowsC cols (cols.getD 0 []).length)) ∨
    (¬ OkC cols ∧ e = .returned (.tuple #[.slice none 0 0, .bool false]))) ∧ Below w.heap.size w w'
/-- what Rows tells, and that the rows are new -/
def RowsF (w w' : World) (cols : List RowV) (e : Ending) : Prop :=
  ((OkC cols ∧ ∃ A C, e = .returned (.tuple #[.slice A (cols.getD 0 []).length C, .bool true]) ∧ (cols.getD 0 []).length ≤ C ∧ C ≤ maxLen ∧ (A = none → C = 0) ∧ SlR rowRep [] w' A (cols.getD 0 []).length (rowsC cols (cols.getD 0 []).length) (fun b => w.heap.size ≤ b)) ∨
    (¬ OkC cols ∧ e = .returned (.tuple #[.slice none 0 0, .bool false]))) ∧ Below w.heap.size w w'
theorem RowsF.e {w w' : World} {cols : List RowV} {e : Ending} (h : RowsF w w' cols e) : RowsE w w' cols e := by
  obtain ⟨h1, h2⟩ := h
  refine ⟨?_, h2⟩
  rcases h1 with ⟨q1, A, C, q2, q3, q4, q5, q6⟩ | h1
  · exact .inl ⟨q1, A, C, q2, q3, q4, q5, q6.rvs⟩
  · exact .inr h1
theorem rowsC_at {cols : List RowV} {n j : Nat} (h : j < n) (hc : ∀ x, x < cols.length → (cols.getD x []).length = n) : (rowsC cols n).take (j + 1) = (rowsC cols n).take j ++ [colL cols (j : Int)] := by
  have hlen : (rowsC cols n).length = n := by simp [rowsC]
  rw [List.take_succ_eq_append_getElem (by rw [hlen]; exact h)]
  congr 1
  rw [colL_yes (fun r hr => by
    obtain ⟨x, hx, rfl⟩ := List.mem_iff_getElem.1 hr
    have := hc x hx
    simp [List.getD, hx] at this
    omega)]
  simp [rowsC]
theorem colL_len {cols : List RowV} {n j : Nat} (h : j < n) (hc : ∀ x, x < cols.length → (cols.getD x []).length = n) : (colL cols (j : Int)).length = cols.length := by
  rw [colL_yes (fun r hr => by
    obtain ⟨x, hx, rfl⟩ := List.mem_iff_getElem.1 hr
    have := hc x hx
    simp [List.getD, hx] at this
    omega), List.length_map]
set_option maxHeartbeats 2000000 in
theorem growsF_any (R : Option Addr) (n c : Nat) (cols : List RowV) (w : World) (hr : RVs w R n cols) (hn : n ≤ 100000) (hm : (cols.getD 0 []).length ≤ 100000) :
    Calls Tryz.prog 110 #[.slice R n c] w fun e w' => RowsF w w' cols e := by
  have hl := Lib.hid hr.1
  by_cases h0 : n = 0
  · subst h0
    have hcn : ¬ OkC cols := fun h => h.1 (List.eq_nil_of_length_eq_zero hl.out)
    go_enter Tryz.func110, Tryz.ntmps110
    go_wp2_with fail
    go_ret2
    exact ⟨.inr ⟨hcn, rfl⟩, Below.refl _ _⟩
  · obtain ⟨b, off, A1, L1, C1, rfl, hc, hL1, hw1⟩ := hr.at 0 (by omega)
    have hl1 := WV.len hw1
    rw [Nat.add_zero] at hc
    have hn0 : (0 : Int) < (n : Int) := by omega
    have hn0' : ¬ (n : Int) = 0 := by omega
    clear hw1
    go_enter Tryz.func110, Tryz.ntmps110
    go_wp2_with fail
    go_loopw [18] (fun i wr => ∃ (j : Nat), j ≤ n ∧ i = .int .i64 (j : Int) ∧ Hid (∀ x, x < j → (cols.getD x []).length = L1) ∧ Below w.heap.size w wr) (fun i _ => n - (intOf i).toNat)
    case atStart => exact ⟨0, by omega, rfl, Lib.hid (fun x hx => by omega), Below.refl _ _⟩
    case round =>
      obtain ⟨j, hj, rfl, HB, hb⟩ := hrel
      by_cases hlt : j < n
      · have hji : (j : Int) < (n : Int) := by omega
        obtain ⟨b2, off2, A2, L2, C2, e2, hc2, hL2, hw2⟩ := hr.at j hlt
        cases e2
        have hc2 := keepc hc2 hb
        have hl2 := WV.len hw2
        clear hw2
        by_cases heq : L2 = L1
        · subst heq
          have HB2 : Hid (∀ x, x < j + 1 → (cols.getD x []).length = L2) := Lib.hid (fun x hx => by
            by_cases hxj : x < j
            · exact HB.out x hxj
            · obtain rfl : x = j := by omega
              exact hl2)
          clear hl2
          go_wp2_with fail
          go_roundw
          case rel => exact ⟨j + 1, by omega, by go_num, HB2, hb⟩
          case measure => simp [intOf]; omega
        · have hcn : ¬ OkC cols := fun h => heq (by rw [← hl2, ← hl1]; exact h.2 j (by rw [hl.out]; exact hlt))
          have hne : ¬ (L2 : Int) = (L1 : Int) := by omega
          clear hl2 HB
          go_wp2_with fail
          go_ret2
          exact ⟨.inr ⟨hcn, rfl⟩, hb⟩
      · have hji : ¬ (j : Int) < (n : Int) := by omega
        obtain rfl : j = n := by omega
        have HC : Hid (∀ x, x < cols.length → (cols.getD x []).length = L1) := Lib.hid (fun x hx => HB.out x (by rw [← hl.out]; exact hx))
        have hok : Hid (OkC cols) := Lib.hid ⟨fun h => h0 (by rw [← hl.out, h]; rfl), fun x hx => by rw [hl1]; exact HC.out x hx⟩
        have hmk := make_rows L1 (by omega)
        have hbk : Bk (wr.alloc (.cells (List.replicate L1 (Value.slice none 0 0)).toArray 46)) wr.heap.size (pcF [] L1) 46 := by rw [pcF_nil]; exact Bk.new wr _ _
        have hb2 := hb.alloc hb.size (.cells (List.replicate L1 (Value.slice none 0 0)).toArray 46)
        have hgs := hb.size
        have hL : L1 ≤ 100000 := by rw [← hl1]; exact hm
        replace hl1 := Lib.hid hl1
        clear hc HB
        go_wp2_with fail
        clear hmk
        simp only [List.toArray_replicate] at hbk hb2
        generalize wr.alloc (.cells (Array.replicate L1 (Value.slice none 0 0)) 46) = w3 at *
        generalize wr.heap.size = gb at *
        clear hb
        clear hlt hji hj
        go_loopw [31] (fun i wr => ∃ (k : Nat) (ps : List P9), k ≤ L1 ∧ i = .int .i64 (k : Int) ∧ ps.length = k ∧ Hid (ps.map (·.2) = (rowsC cols L1).take k) ∧ (∀ p ∈ ps, rowRep.rep wr (sV p.1) p.2 (fun b => b ≠ gb ∧ w.heap.size ≤ b)) ∧ Bk wr gb (pcF ps L1) 46 ∧ Below w.heap.size w wr) (fun i _ => L1 - (intOf i).toNat)
        case atStart => exact ⟨0, [], by omega, rfl, rfl, Lib.hid (by simp), (fun p hp => by cases hp), hbk, hb2⟩
        case round =>
          clear hbk hb2
          obtain ⟨k, ps, hk, rfl, hpl, hps, hpr, bk, hb⟩ := hrel
          by_cases hlt : k < L1
          · have hki : (k : Int) < (L1 : Int) := by omega
            have hg := bk.lt
            have hrl := Lib.hid (rowsC_at (cols := cols) hlt HC.out)
            have hcl := Lib.hid (colL_len (cols := cols) hlt HC.out)
            go_wp2_with fail
            refine (acrossc_any _ j c cols (k : Int) _ (hr.below hb) hn).mono ?_
            rintro e w4 ⟨v4, rfl, ho, hb4⟩
            rw [hcl.out, hl.out] at ho
            obtain ⟨a4, c4, rfl⟩ := ho.shape
            have hro : rowRep.rep w4 (.slice a4 j c4) (colL cols (k : Int)) (fun b => b ≠ gb ∧ w.heap.size ≤ b) := rowRep.wider (rowRep.own ho) (fun b hbb => by have : wr.heap.size ≤ b := hbb; have := hb.size; omega)
            have bk4 := bk.below hb4
            have hpr4 : ∀ p ∈ ps, rowRep.rep w4 (sV p.1) p.2 (fun b => b ≠ gb ∧ w.heap.size ≤ b) := fun p hp => Rep.below rowRep (hpr p hp) hb4
            have hcs := bk4.cell ps.length (pcF_at (by omega))
            have hfs := bk4.free ps.length
            rw [hpl] at hcs hfs
            have bk5 := bk4.set ps.length (sV ((a4, j, c4), colL cols (k : Int)).1)
            rw [pcF_set _ (by omega), hpl] at bk5
            have hb5 := (Below.then hb hb4).setCell (p := ⟨gb, k, none⟩) hgs (.slice a4 j c4)
            clear bk bk4 hb hb4 ho hpr
            go_wp2_with fail
            have hset : ∀ b, b ≠ gb → (w4.setCell ⟨gb, k, none⟩ (.slice a4 j c4)).heap[b]? = w4.heap[b]? := fun b hb => Below.heap_setCell _ _ _ _ hb
            have hpr5 : ∀ p ∈ ps ++ [((a4, j, c4), colL cols (k : Int))], rowRep.rep (w4.setCell ⟨gb, k, none⟩ (.slice a4 j c4)) (sV p.1) p.2 (fun b => b ≠ gb ∧ w.heap.size ≤ b) := fun p hp => by
              rcases List.mem_append.1 hp with hp | hp
              · exact rowRep.frame (hpr4 p hp) (fun b hb _ => hset b hb.1)
              · rw [List.mem_singleton.1 hp]
                exact rowRep.frame hro (fun b hb _ => hset b hb.1)
            have hps5 : Hid ((ps ++ [((a4, j, c4), colL cols (k : Int))]).map (·.2) = (rowsC cols L1).take (k + 1)) := by show _ = _; rw [List.map_append, hps.out, hrl.out]; rfl
            have hpl5 : (ps ++ [((a4, j, c4), colL cols (k : Int))]).length = k + 1 := by rw [List.length_append, hpl]; rfl
            clear hpr4 hro hset hcs hfs
            go_roundw
            case rel => exact ⟨k + 1, _, by omega, by go_num, hpl5, hps5, hpr5, bk5, hb5⟩
            case measure => simp [intOf]; omega
          · have hki : ¬ (k : Int) < (L1 : Int) := by omega
            obtain rfl : k = L1 := by omega
            have hps2 : Hid (ps.map (·.2) = rowsC cols k) := by show _ = _; rw [hps.out, List.take_of_length_le (by simp [rowsC])]
            have hrv := slR_of (F := fun b => w.heap.size ≤ b) (pcF_full bk hpl) (fun p hp => rowRep.wider (hpr p hp) (fun b h => h.2)) (fun x hx => by cases hx; exact hgs)
            rw [hps2.out] at hrv
            clear hps hps2 hpr bk
            go_wp2_with fail
            go_ret2
            refine ⟨.inl ⟨hok.out, some ⟨gb, 0, none⟩, k, ?_, ?_, by unfold maxLen; omega, (fun h => by cases h), ?_⟩, hb⟩
            · rw [hl1.out]; rfl
            · rw [hl1.out]; exact Nat.le_refl _
            · rw [hl1.out]; exact hrv
end Go.Proofs.YtbfihajgjbpmaaaGreat
