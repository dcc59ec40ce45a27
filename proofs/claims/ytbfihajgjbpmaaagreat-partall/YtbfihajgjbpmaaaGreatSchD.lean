/- Texts that belong together, one behind the other: S4r, S4s, S4u. -/
import Derived.Test.YtbfihajgjbpmaaaGreatSchB
import Derived.Test.YtbfihajgjbpmaaaGreatSchC
/- Plain facts on how a schema is taken: numbers that are read one by one. -/
namespace Go.Proofs.YtbfihajgjbpmaaaGreat
set_option linter.unusedVariables false
set_option maxRecDepth 4000

abbrev Bytes (zs : List Int) : Prop := ∀ z ∈ zs, 0 ≤ z ∧ z ≤ 255
/-- the next number, and what is behind it -/
def nx (zs : List Int) : Int × List Int := (IntKind.i64.wrap (varR zs).1, zs.drop (varR zs).2.toNat)
/-- so many numbers, and what is behind them -/
def nxs : Nat → List Int → List Int × List Int
  | 0, zs => ([], zs)
  | k + 1, zs => ((nxs k zs).1 ++ [(nx (nxs k zs).2).1], (nx (nxs k zs).2).2)
theorem Bytes.drop {zs : List Int} (h : Bytes zs) (k : Nat) : Bytes (zs.drop k) := fun z hz => h z (List.mem_of_mem_drop hz)
theorem nx_bytes {zs : List Int} (h : Bytes zs) : Bytes (nx zs).2 := h.drop _
theorem nxs_bytes {zs : List Int} (h : Bytes zs) : ∀ k, Bytes (nxs k zs).2
  | 0 => h
  | k + 1 => nx_bytes (nxs_bytes h k)
theorem nxs_len (zs : List Int) : ∀ k, (nxs k zs).1.length = k
  | 0 => rfl
  | k + 1 => by rw [nxs, List.length_append, nxs_len zs k]; rfl
theorem nx_rng (zs : List Int) : -9223372036854775808 ≤ (nx zs).1 ∧ (nx zs).1 ≤ 9223372036854775807 := by
  show -9223372036854775808 ≤ IntKind.i64.wrap _ ∧ IntKind.i64.wrap _ ≤ 9223372036854775807
  rw [IntKind.wrap_i64]; omega
theorem nx_back {zs : List Int} (hz : Bytes zs) (h : 1 ≤ (nx zs).1) : zs = pv (nx zs).1 ++ (nx zs).2 := by
  by_cases h0 : (varR zs).2 = 0
  · have e := varR_none h0
    rw [nx, e] at h
    have e0 : IntKind.i64.wrap 0 = 0 := rfl
    simp only [e0] at h
    omega
  · obtain ⟨y, rest, hr, h1, h2, he⟩ := varR_back zs hz h0
    have e1 : (nx zs).1 = IntKind.i64.wrap y := by rw [nx, he]
    have e2 : (nx zs).2 = zs.drop (pv y).length := by rw [nx, he]; simp
    have e3 : IntKind.i64.wrap y = y := by rw [e1] at h; rw [IntKind.wrap_i64] at h ⊢; omega
    rw [e2, e1, e3, hr]
    simp
theorem nx_put {y : Int} (h0 : 0 ≤ y) (h1 : y ≤ 9223372036854775807) (r : List Int) : nx (pv y ++ r) = (y, r) := by
  rw [nx, varR_put y r h0 (by omega)]
  have e : IntKind.i64.wrap y = y := by rw [IntKind.wrap_i64]; omega
  simp [e]
theorem nxs_back {zs : List Int} (hz : Bytes zs) : ∀ k, (∀ x ∈ (nxs k zs).1, 1 ≤ x) → zs = joinN (nxs k zs).1 ++ (nxs k zs).2
  | 0, _ => rfl
  | k + 1, h => by
    have ih := nxs_back hz k (fun x hx => h x (by rw [nxs]; exact List.mem_append_left _ hx))
    have h1 := nx_back (nxs_bytes hz k) (h _ (by rw [nxs]; exact List.mem_append_right _ (List.mem_cons_self ..)))
    rw [nxs, joinN_app, joinN_one, List.append_assoc, ← h1]
    exact ih
theorem nxs_put (l r : List Int) (hl : ∀ x ∈ l, 0 ≤ x ∧ x ≤ 9223372036854775807) : ∀ k, k ≤ l.length → nxs k (joinN l ++ r) = (l.take k, joinN (l.drop k) ++ r)
  | 0, _ => rfl
  | k + 1, hk => by
    have ih := nxs_put l r hl k (by omega)
    have hd : l.drop k = l[k] :: l.drop (k + 1) := List.drop_eq_getElem_cons (by omega)
    have hx := hl l[k] (List.getElem_mem _)
    rw [nxs, ih]
    simp only []
    rw [hd, joinN, List.append_assoc, nx_put hx.1 hx.2, List.take_succ_eq_append_getElem (by omega)]
/-- what a schema's bytes say, read one by one -/
structure Says (zs ts : List Int) (k m g : Int) (r : List Int) : Prop where
  count : (nx zs).1 = (ts.length : Int)
  types : (nxs ts.length (nx zs).2).1 = ts
  keys : (nx (nxs ts.length (nx zs).2).2).1 = k
  mode : (nx (nx (nxs ts.length (nx zs).2).2).2).1 = m
  grain : (nx (nx (nx (nxs ts.length (nx zs).2).2).2).2).1 = g
  rest : (nx (nx (nx (nxs ts.length (nx zs).2).2).2).2).2 = r
/-- what is read whole is what was put -/
theorem says_put {zs ts : List Int} {k m g : Int} (hz : Bytes zs) (h : Says zs ts k m g []) (hc : checkB ts k m g = true) : putS ts k m g = zs := by
  obtain ⟨q1, q2, q3, q4, q5, q6, q7, q8, q9⟩ := check_is hc
  obtain ⟨h1, h2, h3, h4, h5, h6⟩ := h
  have b1 := nx_bytes hz
  have b2 := nxs_bytes b1 ts.length
  have b3 := nx_bytes b2
  have b4 := nx_bytes b3
  have e1 := nx_back hz (by rw [h1]; omega)
  have e2 := nxs_back b1 ts.length (by rw [h2]; exact fun x hx => (q9 x hx).1)
  have e3 := nx_back b2 (by rw [h3]; exact q3)
  have e4 := nx_back b3 (by rw [h4]; exact q5)
  have e5 := nx_back b4 (by rw [h5]; exact q7)
  rw [h6, h5, List.append_nil] at e5
  rw [e5, h4] at e4
  rw [e4, h3] at e3
  rw [e3, h2] at e2
  rw [e2, h1] at e1
  rw [putS, schemaN, joinN, joinN_app, e1]
  simp [joinN]
/-- what was put is read whole -/
theorem put_says {zs ts : List Int} {k m g : Int} (h : putS ts k m g = zs) (hc : checkB ts k m g = true) : Says zs ts k m g [] := by
  obtain ⟨q1, q2, q3, q4, q5, q6, q7, q8, q9⟩ := check_is hc
  have e0 : zs = pv (ts.length : Int) ++ (joinN ts ++ (pv k ++ (pv m ++ (pv g ++ [])))) := by
    rw [← h, putS, schemaN, joinN, joinN_app]; simp [joinN]
  have e1 : nx zs = ((ts.length : Int), joinN ts ++ (pv k ++ (pv m ++ (pv g ++ [])))) := by rw [e0]; exact nx_put (by omega) (by omega) _
  have e2 := nxs_put ts (pv k ++ (pv m ++ (pv g ++ []))) (fun x hx => by have := q9 x hx; omega) ts.length (Nat.le_refl _)
  rw [List.take_length, List.drop_length] at e2
  have e2' : nxs ts.length (nx zs).2 = (ts, pv k ++ (pv m ++ (pv g ++ []))) := by rw [e1]; exact e2
  have e3 : nx (nxs ts.length (nx zs).2).2 = (k, pv m ++ (pv g ++ [])) := by rw [e2']; exact nx_put (by omega) (by omega) _
  have e4 : nx (nx (nxs ts.length (nx zs).2).2).2 = (m, pv g ++ []) := by rw [e3]; exact nx_put (by omega) (by omega) _
  have e5 : nx (nx (nx (nxs ts.length (nx zs).2).2).2).2 = (g, []) := by rw [e4]; exact nx_put (by omega) (by omega) _
  exact ⟨by rw [e1], by rw [e2'], by rw [e3], by rw [e4], by rw [e5], by rw [e5]⟩
/-- the bytes are put of no schema that may be -/
def NoS (zs : List Int) : Prop := ∀ ts k m g, checkB ts k m g = true → putS ts k m g ≠ zs
/-- so it is told that there is none, if what is read is none -/
theorem no_says {zs ts : List Int} {k m g : Int} {r : List Int} (hs : Says zs ts k m g r) (h : r ≠ [] ∨ checkB ts k m g = false) : NoS zs := by
  intro us k' m' g' hc hp
  obtain ⟨h1, h2, h3, h4, h5, h6⟩ := put_says hp hc
  obtain ⟨s1, s2, s3, s4, s5, s6⟩ := hs
  have hl : us.length = ts.length := by rw [s1] at h1; omega
  rw [hl] at h2 h3 h4 h5 h6
  rw [s2] at h2
  rw [s3] at h3
  rw [s4] at h4
  rw [s5] at h5
  rw [s6] at h6
  subst h2 h3 h4 h5
  rcases h with h | h
  · exact h h6
  · rw [hc] at h; cases h
theorem no_count {zs : List Int} (h : ¬ (1 ≤ (nx zs).1 ∧ (nx zs).1 ≤ 64)) : NoS zs := by
  intro us k' m' g' hc hp
  have := (put_says hp hc).count
  have := check_is hc
  omega
end Go.Proofs.YtbfihajgjbpmaaaGreat
/- Contracts of the closure within schema.Take, and of Take. -/
namespace Go.Proofs.YtbfihajgjbpmaaaGreat
open Go.ChangeShapes Go.WideShapes Go.ChangeAt Go.RowKit
set_option linter.unusedVariables false
set_option maxRecDepth 4000

/-- what the closure tells -/
def NextE (w w' : World) (B : Nat) (zs : List Int) (e : Ending) : Prop :=
  ∃ (a : Option Addr) (n c : Nat), e = .returned (.int .i64 (nx zs).1) ∧ w' = w.setCell ⟨B, 0, none⟩ (.slice a n c) ∧ BV w a n (nx zs).2 ∧ Low B a n ∧ n ≤ c ∧ n ≤ 1000000
set_option maxHeartbeats 1000000 in
theorem next_any (B : Nat) (a : Option Addr) (n c : Nat) (zs : List Int) (w : World) (hB : Bk w B #[.slice a n c] 26) (hv : BV w a n zs) (hl : Low B a n) (hc : n ≤ c) (hn : n ≤ 1000000) :
    Calls Tryz.prog 97 #[.pointer (some ⟨B, 0, none⟩)] w fun e w' => NextE w w' B zs e := by
  have c0 := hB.cell 0 (v := .slice a n c) rfl
  have f0 := hB.free 0
  have hbd := varR_bd zs hv.2.1
  rw [hv.1] at hbd
  obtain ⟨x, hx⟩ : ∃ x, (varR zs).1 = x := ⟨_, rfl⟩
  obtain ⟨s, hs, hsn⟩ : ∃ s : Nat, (varR zs).2 = (s : Int) ∧ s ≤ n := ⟨(varR zs).2.toNat, by omega, by omega⟩
  have HX : Hid ((nx zs).1 = IntKind.i64.wrap x) := Lib.hid (by rw [nx, hx])
  have HR : Hid ((nx zs).2 = zs.drop s) := Lib.hid (by rw [nx, hs]; simp)
  have hcut := hv.cutA s c hsn hc
  have hlow := low_cut hl (c = s) s
  have hsni : (s : Int) ≤ (n : Int) := by omega
  have hsc : s ≤ c := by omega
  go_enter Tryz.func97, Tryz.ntmps97
  go_wp2_with fail
  refine (var_any a n c zs _ hv).mono ?_
  rw [hx, hs]
  clear hbd hx hs hB hv
  rintro e w' ⟨rfl, rfl⟩
  by_cases hcs : c = s
  · rw [if_pos hcs] at hcut hlow
    subst hcs
    go_wp2_with fail
    go_ret
    exact ⟨_, _, _, ret_int (by rw [HX.out, IntKind.wrap_i64, wrap64]), rfl, by rw [HR.out]; rwa [show n - c = 0 by omega] at hcut, by rwa [show n - c = 0 by omega] at hlow, by omega, by omega⟩
  · rw [if_neg hcs] at hcut hlow
    go_wp2_with fail
    go_ret
    exact ⟨_, _, _, ret_int (by rw [HX.out, IntKind.wrap_i64, wrap64]), rfl, by rw [HR.out]; exact hcut, hlow, by omega, by omega⟩
theorem make_ints (N : Nat) (h : N ≤ 64) (w : World) : (Instr.makeSlice 22 (.int .i64 (N : Int)) (.int .i64 (N : Int))).run Tryz.prog w = .ok (.slice (some ⟨w.heap.size, 0, none⟩) N N) (w.alloc (.cells (icells (List.replicate N 0)).toArray 3)) := by
  have := run_make_row' (P := Tryz.prog) 22 3 (.int .i64 0) 8 Tryz.underlying22 (by kernel_rfl) rfl .i64 .i64 N (by omega) (by omega) w
  rw [madeCells_int] at this
  exact this
/-- what Take tells -/
def TakeE (w w' : World) (zs : List Int) (e : Ending) : Prop :=
  (∃ (A : Option Addr) (N C : Nat) (ts : List Int) (k m g : Int), e = .returned (.tuple #[SS A N C k m g, .int .i64 0]) ∧ checkB ts k m g = true ∧ putS ts k m g = zs ∧ IV w' A N ts ∧ Below w.heap.size w w') ∨
  (e = .returned (.tuple #[SS none 0 0 0 0 0, .int .i64 10]) ∧ NoS zs ∧ Below w.heap.size w w')
/-- the same, and that the types have room -/
def TakeS (w w' : World) (zs : List Int) (e : Ending) : Prop :=
  (∃ (A : Option Addr) (N C : Nat) (ts : List Int) (k m g : Int), e = .returned (.tuple #[SS A N C k m g, .int .i64 0]) ∧ N ≤ C ∧ checkB ts k m g = true ∧ putS ts k m g = zs ∧ IV w' A N ts ∧ Below w.heap.size w w') ∨
  (e = .returned (.tuple #[SS none 0 0 0 0 0, .int .i64 10]) ∧ NoS zs ∧ Below w.heap.size w w')
theorem TakeS.e {w w' : World} {zs : List Int} {e : Ending} (h : TakeS w w' zs e) : TakeE w w' zs e := by
  rcases h with ⟨A, N, C, ts, k, m, g, h1, -, h2⟩ | h
  · exact .inl ⟨A, N, C, ts, k, m, g, h1, h2⟩
  · exact .inr h
theorem res_ss2 {fn : Func} {p u : Tmp} (h : fn.results = #[.cell p 24, .tmp u]) (tmps : Array Value) {w : World} (b : Nat) {A : Option Addr} {N C : Nat} {k m g : Int} (hp : tmps.getD p undef = .pointer (some ⟨b, 0, none⟩)) (hc : Sx w b A N C k m g) :
    (results fn tmps).run Tryz.prog w = .ok (.tuple #[SS A N C k m g, tmps.getD u undef]) w := by
  rw [results_cell_tmp h, hp]
  simp [Result.andThen, asAddr, ld_ss b hc]
abbrev nil4 : Array Value := #[.slice none 0 0, .int .i64 0, .int .i64 0, .int .i64 0]
set_option maxHeartbeats 4000000 in
theorem takeS_any (a : Option Addr) (n c : Nat) (zs : List Int) (w : World) (hv : BV w a n zs) (hc : n ≤ c) (hn : n ≤ 1000000) :
    Calls Tryz.prog 69 #[.slice a n c] w fun e w' => TakeS w w' zs e := by
  have HZ := Lib.hid hv.2.1
  have t2 := (Bk.new w nil4 24).alloc (.cells #[.slice a n c] 26)
  have t4 := Bk.new (w.alloc (.cells nil4 24)) #[.slice a n c] 26
  rw [heap_alloc] at t4
  have hv0 : BV ((w.alloc (.cells nil4 24)).alloc (.cells #[.slice a n c] 26)) a n zs := (hv.alloc _).alloc _
  have hl0 : Low (w.heap.size + 1) a n := (Low.of hv).mono (by omega)
  have hb0 : Below w.heap.size w ((w.alloc (.cells nil4 24)).alloc (.cells #[.slice a n c] 26)) := Joins.below_alloc2 _ _ _
  go_enter Tryz.func69, Tryz.ntmps69
  go_wp2_with fail
  refine (next_any (w.heap.size + 1) a n c zs _ t4 hv0 hl0 hc hn).mono ?_
  rintro e w1 ⟨a1, n1, c1, rfl, hw1, hv1, hl1, hc1, hn1⟩
  have t4' : Bk w1 (w.heap.size + 1) #[.slice a1 n1 c1] 26 := by rw [hw1]; exact t4.set 0 _
  have t2' : Bk w1 w.heap.size nil4 24 := by rw [hw1]; exact t2.other (by omega) _
  have hv1' : BV w1 a1 n1 (nx zs).2 := by rw [hw1]; exact hv1.set hl1 _
  have hb1 : Below w.heap.size w w1 := by rw [hw1]; exact hb0.setCell (by simp) _
  have hs1 : w1.heap.size = w.heap.size + 2 := by rw [hw1, size_set]; simp
  clear hw1 hv1 t4 t2 hv0 hb0 hl0
  go_wp2_with fail
  refine (upto_any 64 _ _).mono ?_
  rintro e w' ⟨rfl, rfl⟩
  cases h1 : upB 64 (nx zs).1
  · have HN := Lib.hid (no_count (zs := zs) (fun h => upB_no h1 h))
    obtain ⟨d0, d1, d2, d3⟩ := t2'.sx
    have f0 := t2'.free 0
    have f1 := t2'.free 1
    have f2 := t2'.free 2
    have f3 := t2'.free 3
    go_wp2_with fail
    refine bodyPost_ret (res_ss2 rfl _ _ rfl (t2'.put4 (.slice none 0 0) (.int .i64 0) (.int .i64 0) (.int .i64 0)).sx) rfl (.inr ⟨rfl, HN.out, ?_⟩)
    exact (((hb1.setCell (by simp) _).setCell (by simp) _).setCell (by simp) _).setCell (by simp) _
  · obtain ⟨N, hN, hN1, hN64⟩ : ∃ N : Nat, (nx zs).1 = (N : Int) ∧ 1 ≤ N ∧ N ≤ 64 := ⟨(nx zs).1.toNat, by have := upB_yes h1; omega, by have := upB_yes h1; omega, by have := upB_yes h1; omega⟩
    have hmk := make_ints N hN64
    have HC := Lib.hid hN
    rw [hN]
    clear h1 hN
    have bz : Hid (Bytes (nx zs).2) := Lib.hid (nx_bytes HZ.out)
    go_wp2_with fail
    have t7 := Bk.new (w'.alloc (.cells (icells (List.replicate N 0)).toArray 3)) #[.slice (some ⟨w.heap.size + 2, 0, none⟩) N N, .int .i64 0, .int .i64 0, .int .i64 0] 24
    rw [heap_alloc, hs1] at t7
    have ho := (OS.lit (k := 1) w' (w.heap.size + 2) (by omega) (icells (List.replicate N 0)) N 3 (by simp [icells]) (icells_one _) (few_max' (by omega)) (w.heap.size + 2) hs1.symm).alloc (.cells #[.slice (some ⟨w.heap.size + 2, 0, none⟩) N N, .int .i64 0, .int .i64 0, .int .i64 0] 24)
    have u2 := (t2'.alloc (.cells (icells (List.replicate N 0)).toArray 3)).alloc (.cells #[.slice (some ⟨w.heap.size + 2, 0, none⟩) N N, .int .i64 0, .int .i64 0, .int .i64 0] 24)
    have u4 := (t4'.alloc (.cells (icells (List.replicate N 0)).toArray 3)).alloc (.cells #[.slice (some ⟨w.heap.size + 2, 0, none⟩) N N, .int .i64 0, .int .i64 0, .int .i64 0] 24)
    have hv2 := (hv1'.alloc (.cells (icells (List.replicate N 0)).toArray 3)).alloc (.cells #[.slice (some ⟨w.heap.size + 2, 0, none⟩) N N, .int .i64 0, .int .i64 0, .int .i64 0] 24)
    have hb2 := (hb1.alloc (by omega) (.cells (icells (List.replicate N 0)).toArray 3)).alloc (by simp; omega) (.cells #[.slice (some ⟨w.heap.size + 2, 0, none⟩) N N, .int .i64 0, .int .i64 0, .int .i64 0] 24)
    clear hmk t2' t4' hv1' hb1
    generalize (w'.alloc (.cells (icells (List.replicate N 0)).toArray 3)).alloc (.cells #[.slice (some ⟨w.heap.size + 2, 0, none⟩) N N, .int .i64 0, .int .i64 0, .int .i64 0] 24) = w2 at *
    obtain ⟨r0, hr0⟩ : ∃ r0, (nx zs).2 = r0 := ⟨_, rfl⟩
    have HR0 := Lib.hid hr0
    rw [hr0] at bz hv2
    clear hr0 hs1
    generalize hbt : w.heap.size + 2 = bt at *
    have HBT := Lib.hid hbt
    clear hbt
    go_loopw [23] (fun i wr => ∃ (j : Nat) (a : Option Addr) (n c : Nat), j ≤ N ∧ i = .int .i64 (j : Int) ∧ Bk wr w.heap.size nil4 24 ∧ Bk wr (w.heap.size + 1) #[.slice a n c] 26 ∧ BV wr a n (nxs j r0).2 ∧ Low (w.heap.size + 1) a n ∧ n ≤ c ∧ n ≤ 1000000 ∧
      OS 1 wr bt (.slice (some ⟨bt, 0, none⟩) N N) N (icells ((nxs j r0).1 ++ List.replicate (N - j) 0)) ∧ Bk wr (bt + 1) #[.slice (some ⟨bt, 0, none⟩) N N, .int .i64 0, .int .i64 0, .int .i64 0] 24 ∧ Below w.heap.size w wr) (fun i _ => N - (intOf i).toNat)
    case atStart => exact ⟨0, a1, n1, c1, by omega, rfl, u2, u4, hv2, hl1, hc1, hn1, by simpa [nxs] using ho, t7, hb2⟩
    case round =>
      clear ho t7 u2 u4 hv2 hb2 hl1 hc1 hn1 hv hc hn
      obtain ⟨j, aj, nj, cj, hj, rfl, u2, u4, hv, hl, hc, hn, ho, t7, hb⟩ := hrel
      by_cases hlt : j < N
      · have d0 := t7.cell 0 (v := .slice (some ⟨bt, 0, none⟩) N N) rfl
        have hNi : (j : Int) < (N : Int) := by omega
        go_wp2_with fail
        refine wp_region_noPanic ?_
        refine region_g 6 (fun wq => wq.cell? ⟨bt + 1, 0, none⟩ = some (.slice (some ⟨bt, 0, none⟩) N N)) (by kernel_rfl) (d0) (fun hS => ?_)
        refine take_w (i := 0) (v := ?_) (some 26) rfl (by kernel_rfl) rfl (fun _ _ _ h => h) (Or.inl ⟨by rfl, ?_⟩) hS ?_
        rotate_left
        · (intro wq hq; go_simp); first | done | with_reducible rfl
        try simp only [Act.put, List.setIfInBounds_toArray, List.set_cons_zero, List.set_cons_succ]
        replace hS := Till.list 0 hS
        refine take_w (i := 2) (v := ?_) (some 28) rfl (by kernel_rfl) rfl (fun _ _ _ h => h) (Or.inl ⟨by rfl, ?_⟩) hS ?_
        rotate_left
        · (intro wq hq; go_simp); first | done | with_reducible rfl
        try simp only [Act.put, List.setIfInBounds_toArray, List.set_cons_zero, List.set_cons_succ]
        replace hS := Till.list 2 hS
        refine take_w (i := 3) (v := ?_) (some 29) rfl (by kernel_rfl) rfl (fun _ _ _ h => h) (Or.inl ⟨by rfl, ?_⟩) hS ?_
        rotate_left
        · (intro wq hq; go_simp); first | done | with_reducible rfl
        try simp only [Act.put, List.setIfInBounds_toArray, List.set_cons_zero, List.set_cons_succ]
        replace hS := Till.list 3 hS
        refine take_g (i := 1) (v := ?_) [1] (some 27) rfl (by kernel_rfl) rfl (fun _ _ _ h => h) (Or.inl ⟨by rfl, ?_⟩) hS ?_
        rotate_left
        · (intro wq hq; skip; go_simp); first | done | with_reducible rfl
        try simp only [Act.put, List.setIfInBounds_toArray, List.set_cons_zero, List.set_cons_succ]
        replace hS := Till.list 1 hS
        refine ready_g (rs := [4]) (by kernel_rfl) (by simp) ?_
        refine AllReadyG.cons rfl (fun Kont hK => ?_) AllReadyG.nil
        go_simp
        refine (next_any (w.heap.size + 1) aj nj cj (nxs j r0).2 _ u4.drew hv.drew hl hc hn).mono ?_
        rintro e w3 ⟨a3, n3, c3, rfl, hw3, hv3, hl3, hc3, hn3⟩
        have hbt := HBT.out
        have v2 : Bk w3 w.heap.size nil4 24 := by rw [hw3]; exact u2.drew.other (by omega) _
        have v4 : Bk w3 (w.heap.size + 1) #[.slice a3 n3 c3] 26 := by rw [hw3]; exact u4.drew.set 0 _
        have v7 : Bk w3 (bt + 1) #[.slice (some ⟨bt, 0, none⟩) N N, .int .i64 0, .int .i64 0, .int .i64 0] 24 := by rw [hw3]; exact t7.drew.other (by omega) _
        have vo : OS 1 w3 bt (.slice (some ⟨bt, 0, none⟩) N N) N (icells ((nxs j r0).1 ++ List.replicate (N - j) 0)) := by rw [hw3]; exact ho.drew.set (by omega) _
        have vv : BV w3 a3 n3 (nx (nxs j r0).2).2 := by rw [hw3]; exact hv3.set hl3 _
        have vb : Below w.heap.size w w3 := by rw [hw3]; exact hb.drew.setCell (by simp) _
        have d3 := v7.cell 0 (v := .slice (some ⟨bt, 0, none⟩) N N) rfl
        refine hK.out _ _ (Or.inr (d3)) (fun hS0 => ?_)
        clear hK Kont
        try simp only [Act.put, List.setIfInBounds_toArray, List.set_cons_zero, List.set_cons_succ]
        clear hS
        have hS := hS0
        clear hS0
        clear hw3 hv3 u2 u4 t7 ho hv hl hc hn hb
        obtain ⟨_, _, hA, -, -, -, celo, free, setv⟩ := vo.own hN1
        cases hA
        have e1 := celo j _ (List.getElem?_eq_getElem (by rw [vo.1]; omega))
        have f1 := free j
        have vn := setv j (.int .i64 (nx (nxs j r0).2).1) (by omega) rfl
        have hsf := set_fill (nxs j r0).1 N (nx (nxs j r0).2).1 (by rw [nxs_len]; exact hlt)
        rw [nxs_len] at hsf
        rw [hsf] at vn
        clear celo free setv hsf
        refine take_w (i := 5) (v := ?_) (some 31) rfl (by kernel_rfl) rfl (fun _ _ _ h => h) (Or.inl ⟨by rfl, ?_⟩) hS ?_
        rotate_left
        · (intro wq hq; go_simp); first | done | with_reducible rfl
        try simp only [Act.put, List.setIfInBounds_toArray, List.set_cons_zero, List.set_cons_succ]
        replace hS := Till.list 5 hS
        refine ready_g (rs := [6]) (by kernel_rfl) (by simp) ?_
        refine AllReadyG.cons rfl (fun Kont hK => ?_) AllReadyG.nil
        go_simp
        refine hK.out _ _ (Or.inl (by kernel_rfl)) (fun hS0 => ?_)
        clear hK Kont
        try simp only [Act.put, List.setIfInBounds_toArray, List.set_cons_zero, List.set_cons_succ]
        clear hS
        have hS := hS0
        clear hS0
        refine done_g (by kernel_rfl) (NoPanic.normal ?_) _
        clear hS
        have y2 := v2.other (c := bt) (i := j) (by omega) (.int .i64 (nx (nxs j r0).2).1)
        have y4 := v4.other (c := bt) (i := j) (by omega) (.int .i64 (nx (nxs j r0).2).1)
        have y7 := v7.other (c := bt) (i := j) (by omega) (.int .i64 (nx (nxs j r0).2).1)
        have yv := vv.set (B := bt) (i := j) (hl3.mono (by omega)) (.int .i64 (nx (nxs j r0).2).1)
        have yb := vb.setCell (p := ⟨bt, j, none⟩) (by show w.heap.size ≤ bt; omega) (.int .i64 (nx (nxs j r0).2).1)
        clear v2 v4 v7 vv vb vo e1 f1 d0 d3 hbt
        go_wp2_with fail
        go_roundw
        case rel => exact ⟨j + 1, a3, n3, c3, by omega, by go_num, y2, y4, yv, hl3, hc3, hn3, vn, y7, yb⟩
        case measure => simp [intOf]; omega
      · obtain rfl : j = N := by omega
        rw [Nat.sub_self, List.replicate_zero, List.append_nil] at ho
        have hbt := HBT.out
        have HT : Hid ((nxs j r0).1.length = j) := Lib.hid (nxs_len _ _)
        have hrn := nx_rng
        go_wp2_with fail
        refine (next_any (w.heap.size + 1) _ _ _ (nxs j r0).2 _ u4 hv hl hc hn).mono ?_
        rintro e w3 ⟨a3, n3, c3, rfl, hw3, hv3, hl3, hc3, hn3⟩
        replace u2 : Bk w3 w.heap.size nil4 24 := by rw [hw3]; exact u2.other (by omega) _
        replace u4 : Bk w3 (w.heap.size + 1) #[.slice a3 n3 c3] 26 := by rw [hw3]; exact u4.set 0 _
        replace t7 := t7.other (c := w.heap.size + 1) (i := 0) (by omega) (.slice a3 n3 c3)
        rw [← hw3] at t7
        replace ho : OS 1 w3 bt (.slice (some ⟨bt, 0, none⟩) j j) j (icells (nxs j r0).1) := by rw [hw3]; exact ho.set (by omega) _
        replace hv : BV w3 a3 n3 (nx (nxs j r0).2).2 := by rw [hw3]; exact hv3.set hl3 _
        replace hb : Below w.heap.size w w3 := by rw [hw3]; exact hb.setCell (by simp) _
        replace hl := hl3
        replace hc := hc3
        replace hn := hn3
        clear hw3 hv3 hl3 hc3 hn3
        have d3 := t7.cell 1 rfl
        have f3 := t7.free 1
        go_wp2_with fail
        clear d3 f3
        replace u2 := u2.other (c := bt + 1) (i := 1) (by omega) (.int .i64 (nx (nxs j r0).2).1)
        replace u4 := u4.other (c := bt + 1) (i := 1) (by omega) (.int .i64 (nx (nxs j r0).2).1)
        replace hv := hv.set (B := bt + 1) (i := 1) (hl.mono (by omega)) (.int .i64 (nx (nxs j r0).2).1)
        replace ho := ho.setN (b := bt + 1) (i := 1) (by omega) (.int .i64 (nx (nxs j r0).2).1)
        replace t7 : Bk _ (bt + 1) #[.slice (some ⟨bt, 0, none⟩) j j, .int .i64 (nx (nxs j r0).2).1, .int .i64 0, .int .i64 0] 24 := t7.set 1 (.int .i64 (nx (nxs j r0).2).1)
        replace hb := hb.setCell (p := ⟨bt + 1, 1, none⟩) (by show w.heap.size ≤ bt + 1; omega) (.int .i64 (nx (nxs j r0).2).1)
        generalize w3.setCell ⟨bt + 1, 1, none⟩ (.int .i64 (nx (nxs j r0).2).1) = w3 at *
        refine (next_any (w.heap.size + 1) _ _ _ (nx (nxs j r0).2).2 _ u4 hv hl hc hn).mono ?_
        rintro e w4 ⟨a3, n3, c3, rfl, hw3, hv3, hl3, hc3, hn3⟩
        replace u2 : Bk w4 w.heap.size nil4 24 := by rw [hw3]; exact u2.other (by omega) _
        replace u4 : Bk w4 (w.heap.size + 1) #[.slice a3 n3 c3] 26 := by rw [hw3]; exact u4.set 0 _
        replace t7 := t7.other (c := w.heap.size + 1) (i := 0) (by omega) (.slice a3 n3 c3)
        rw [← hw3] at t7
        replace ho : OS 1 w4 bt (.slice (some ⟨bt, 0, none⟩) j j) j (icells (nxs j r0).1) := by rw [hw3]; exact ho.set (by omega) _
        replace hv : BV w4 a3 n3 (nx (nx (nxs j r0).2).2).2 := by rw [hw3]; exact hv3.set hl3 _
        replace hb : Below w.heap.size w w4 := by rw [hw3]; exact hb.setCell (by simp) _
        replace hl := hl3
        replace hc := hc3
        replace hn := hn3
        clear hw3 hv3 hl3 hc3 hn3
        have d3 := t7.cell 2 rfl
        have f3 := t7.free 2
        go_wp2_with fail
        clear d3 f3
        replace u2 := u2.other (c := bt + 1) (i := 2) (by omega) (.int .i64 (nx (nx (nxs j r0).2).2).1)
        replace u4 := u4.other (c := bt + 1) (i := 2) (by omega) (.int .i64 (nx (nx (nxs j r0).2).2).1)
        replace hv := hv.set (B := bt + 1) (i := 2) (hl.mono (by omega)) (.int .i64 (nx (nx (nxs j r0).2).2).1)
        replace ho := ho.setN (b := bt + 1) (i := 2) (by omega) (.int .i64 (nx (nx (nxs j r0).2).2).1)
        replace t7 : Bk _ (bt + 1) #[.slice (some ⟨bt, 0, none⟩) j j, .int .i64 (nx (nxs j r0).2).1, .int .i64 (nx (nx (nxs j r0).2).2).1, .int .i64 0] 24 := t7.set 2 (.int .i64 (nx (nx (nxs j r0).2).2).1)
        replace hb := hb.setCell (p := ⟨bt + 1, 2, none⟩) (by show w.heap.size ≤ bt + 1; omega) (.int .i64 (nx (nx (nxs j r0).2).2).1)
        generalize w4.setCell ⟨bt + 1, 2, none⟩ (.int .i64 (nx (nx (nxs j r0).2).2).1) = w4 at *
        refine (next_any (w.heap.size + 1) _ _ _ (nx (nx (nxs j r0).2).2).2 _ u4 hv hl hc hn).mono ?_
        rintro e w5 ⟨a3, n3, c3, rfl, hw3, hv3, hl3, hc3, hn3⟩
        replace u2 : Bk w5 w.heap.size nil4 24 := by rw [hw3]; exact u2.other (by omega) _
        replace u4 : Bk w5 (w.heap.size + 1) #[.slice a3 n3 c3] 26 := by rw [hw3]; exact u4.set 0 _
        replace t7 := t7.other (c := w.heap.size + 1) (i := 0) (by omega) (.slice a3 n3 c3)
        rw [← hw3] at t7
        replace ho : OS 1 w5 bt (.slice (some ⟨bt, 0, none⟩) j j) j (icells (nxs j r0).1) := by rw [hw3]; exact ho.set (by omega) _
        replace hv : BV w5 a3 n3 (nx (nx (nx (nxs j r0).2).2).2).2 := by rw [hw3]; exact hv3.set hl3 _
        replace hb : Below w.heap.size w w5 := by rw [hw3]; exact hb.setCell (by simp) _
        replace hl := hl3
        replace hc := hc3
        replace hn := hn3
        clear hw3 hv3 hl3 hc3 hn3
        have d3 := t7.cell 3 rfl
        have f3 := t7.free 3
        have e4 := u4.cell 0 (v := .slice a3 n3 c3) rfl
        have hB7 : w.heap.size + 1 < bt + 1 := by omega
        have hB2 : w.heap.size < bt + 1 := by omega
        have s0 := t7.cell 0 rfl
        have s1 := t7.cell 1 rfl
        have s2 := t7.cell 2 rfl
        have HS : Hid (∀ ts k m g r, ts = (nxs j r0).1 → k = (nx (nxs j r0).2).1 → m = (nx (nx (nxs j r0).2).2).1 → g = (nx (nx (nx (nxs j r0).2).2).2).1 → r = (nx (nx (nx (nxs j r0).2).2).2).2 → Says zs ts k m g r) := Lib.hid (by
          intro ts k m g r e1 e2 e3 e4 e5
          have hl : ts.length = j := by rw [e1]; exact nxs_len _ _
          refine ⟨by rw [HC.out, hl], ?_, ?_, ?_, ?_, ?_⟩ <;> rw [HR0.out, hl]
          · exact e1.symm
          · exact e2.symm
          · exact e3.symm
          · exact e4.symm
          · exact e5.symm)
        have HL := Lib.hid hv.1
        by_cases h0 : n3 = 0
        · have HE : Hid ((nx (nx (nx (nxs j r0).2).2).2).2 = []) := Lib.hid (List.eq_nil_of_length_eq_zero (by rw [HL.out]; exact h0))
          subst h0
          go_wp2_with fail
          clear d3 f3 e4 s0 s1 s2
          replace u2 := u2.other (c := bt + 1) (i := 3) (by omega) (.int .i64 (nx (nx (nx (nxs j r0).2).2).2).1)
          replace u4 := u4.other (c := bt + 1) (i := 3) (by omega) (.int .i64 (nx (nx (nx (nxs j r0).2).2).2).1)
          replace hv := hv.set (B := bt + 1) (i := 3) (hl.mono (by omega)) (.int .i64 (nx (nx (nx (nxs j r0).2).2).2).1)
          replace ho := ho.setN (b := bt + 1) (i := 3) (by omega) (.int .i64 (nx (nx (nx (nxs j r0).2).2).2).1)
          replace t7 : Bk _ (bt + 1) #[.slice (some ⟨bt, 0, none⟩) j j, .int .i64 (nx (nxs j r0).2).1, .int .i64 (nx (nx (nxs j r0).2).2).1, .int .i64 (nx (nx (nx (nxs j r0).2).2).2).1] 24 := t7.set 3 (.int .i64 (nx (nx (nx (nxs j r0).2).2).2).1)
          replace hb := hb.setCell (p := ⟨bt + 1, 3, none⟩) (by show w.heap.size ≤ bt + 1; omega) (.int .i64 (nx (nx (nx (nxs j r0).2).2).2).1)
          generalize w5.setCell ⟨bt + 1, 3, none⟩ (.int .i64 (nx (nx (nx (nxs j r0).2).2).2).1) = w5 at *
          obtain ⟨ts, hts⟩ : ∃ ts, (nxs j r0).1 = ts := ⟨_, rfl⟩
          obtain ⟨k, hkk⟩ : ∃ k, (nx (nxs j r0).2).1 = k := ⟨_, rfl⟩
          obtain ⟨m, hmm⟩ : ∃ m, (nx (nx (nxs j r0).2).2).1 = m := ⟨_, rfl⟩
          obtain ⟨g, hgg⟩ : ∃ g, (nx (nx (nx (nxs j r0).2).2).2).1 = g := ⟨_, rfl⟩
          have hsay := HS.out ts k m g [] hts.symm hkk.symm hmm.symm hgg.symm HE.out.symm
          rw [hts] at ho
          rw [hkk, hmm, hgg] at t7 ⊢
          clear HS HE HL hts hkk hmm hgg hrn hv
          have hsay := Lib.hid hsay
          obtain ⟨_, _, hA, -, -, hiv, -⟩ := ho.sv
          cases hA
          refine (check_any (some ⟨bt, 0, none⟩) j j ts k m g _ hiv (few_max' (by omega))).mono ?_
          rintro e w6 ⟨rfl, hb6⟩
          replace u2 := u2.below hb6
          replace t7 := t7.below hb6
          replace ho := ho.below hb6
          replace hb := Below.then hb hb6
          clear hb6 hiv
          obtain ⟨g0, g1, g2, g3⟩ := u2.sx
          have f0 := u2.free 0
          have f1 := u2.free 1
          have f2 := u2.free 2
          have f3 := u2.free 3
          cases hck : checkB ts k m g
          · rw [show chkE ts k m g = 20 from by rw [chkE, hck]; rfl]
            have HN := Lib.hid (no_says hsay.out (.inr hck))
            clear hck
            go_wp2_with fail
            refine bodyPost_ret (res_ss2 rfl _ _ rfl (u2.put4 (.slice none 0 0) (.int .i64 0) (.int .i64 0) (.int .i64 0)).sx) rfl (.inr ⟨rfl, HN.out, ?_⟩)
            exact (((hb.setCell (by simp) _).setCell (by simp) _).setCell (by simp) _).setCell (by simp) _
          · rw [show chkE ts k m g = 0 from by rw [chkE, hck]; rfl]
            have HP := Lib.hid (says_put HZ.out hsay.out hck)
            have HK := Lib.hid hck
            obtain ⟨s0, s1, s2, s3⟩ := t7.sx
            clear hck
            obtain ⟨_, _, hA, -, -, hivr, -⟩ := ho.sv
            cases hA
            have hbw : bt ≠ w.heap.size := by omega
            go_wp2_with fail
            refine bodyPost_ret (res_ss2 rfl _ _ rfl (u2.put4 (.slice (some ⟨bt, 0, none⟩) j j) (.int .i64 k) (.int .i64 m) (.int .i64 g)).sx) rfl (.inl ⟨_, _, _, ts, k, m, g, rfl, Nat.le_refl _, HK.out, HP.out, ?_, ?_⟩)
            · exact (((SV.set hivr (fun x hx => by cases hx; exact hbw) _).set (fun x hx => by cases hx; exact hbw) _).set (fun x hx => by cases hx; exact hbw) _).set (fun x hx => by cases hx; exact hbw) _
            · exact (((hb.setCell (by simp) _).setCell (by simp) _).setCell (by simp) _).setCell (by simp) _
        · have HE : Hid ((nx (nx (nx (nxs j r0).2).2).2).2 ≠ []) := Lib.hid (fun h => h0 (by rw [← HL.out, h]; rfl))
          have HN := Lib.hid (no_says (HS.out _ _ _ _ _ rfl rfl rfl rfl rfl) (.inl HE.out))
          have hn0 : (0 : Int) < (n3 : Int) := by omega
          obtain ⟨g0, g1, g2, g3⟩ := u2.sx
          have f0 := u2.free 0
          have f1 := u2.free 1
          have f2 := u2.free 2
          have f4 := u2.free 3
          clear HS HE
          go_wp2_with fail
          refine bodyPost_ret (res_ss2 rfl _ _ rfl ((u2.other (c := bt + 1) (i := 3) (by omega) (.int .i64 (nx (nx (nx (nxs j r0).2).2).2).1)).put4 (.slice none 0 0) (.int .i64 0) (.int .i64 0) (.int .i64 0)).sx) rfl (.inr ⟨rfl, HN.out, ?_⟩)
          exact ((((hb.setCell (p := ⟨bt + 1, 3, none⟩) (by show w.heap.size ≤ bt + 1; omega) _).setCell (by simp) _).setCell (by simp) _).setCell (by simp) _).setCell (by simp) _
end Go.Proofs.YtbfihajgjbpmaaaGreat
/- Contract of Same: whether two schemas are the same. -/
namespace Go.Proofs.YtbfihajgjbpmaaaGreat
open Go.ChangeShapes Go.WideShapes Go.ChangeAt Go.RowKit
set_option linter.unusedVariables false
set_option maxRecDepth 4000

def sameS (ts : List Int) (k m g : Int) (us : List Int) (k' m' g' : Int) : Bool := decide (ts = us ∧ k = k' ∧ m = m' ∧ g = g')
set_option maxHeartbeats 2000000 in
theorem same_any (A : Option Addr) (N C : Nat) (ts : List Int) (k m g : Int) (A' : Option Addr) (N' C' : Nat) (us : List Int) (k' m' g' : Int) (w : World) (hv : IV w A N ts) (hv' : IV w A' N' us) (hN : N ≤ maxLen) (hN' : N' ≤ maxLen) :
    Calls Tryz.prog 27 #[SS A N C k m g, SS A' N' C' k' m' g'] w fun e w' => e = .returned (.bool (sameS ts k m g us k' m' g')) ∧ Below w.heap.size w w' := by
  unfold maxLen at hN hN'
  have hl := Lib.hid (IV.len hv)
  have hl' := Lib.hid (IV.len hv')
  by_cases h1 : N = N'
  · subst h1
    by_cases h2 : k = k'
    · subst h2
      by_cases h3 : m = m'
      · subst h3
        by_cases h4 : g = g'
        · subst h4
          have hx := (Sx.new w A N C k m g 24).alloc (.cells #[.slice A' N C', .int .i64 k, .int .i64 m, .int .i64 g] 24)
          have hy := Sx.new (w.alloc (.cells #[.slice A N C, .int .i64 k, .int .i64 m, .int .i64 g] 24)) A' N C' k m g 24
          rw [heap_alloc] at hy
          go_enter Tryz.func27, Tryz.ntmps27
          go_wp2_with fail
          have hb0 : Below w.heap.size w ((w.alloc (.cells #[.slice A N C, .int .i64 k, .int .i64 m, .int .i64 g] 24)).alloc (.cells #[.slice A' N C', .int .i64 k, .int .i64 m, .int .i64 g] 24)) := Joins.below_alloc2 _ _ _
          generalize (w.alloc (.cells #[.slice A N C, .int .i64 k, .int .i64 m, .int .i64 g] 24)).alloc (.cells #[.slice A' N C', .int .i64 k, .int .i64 m, .int .i64 g] 24) = w0 at *
          go_loopw [5] (fun i wr => ∃ j : Nat, j ≤ N ∧ i = .int .i64 (j : Int) ∧ Hid (∀ i, i < j → ts.getD i 0 = us.getD i 0) ∧ Below w0.heap.size w0 wr) (fun i _ => N - (intOf i).toNat)
          case atStart => exact ⟨0, by omega, rfl, Lib.hid (fun i hi => by omega), Below.refl _ _⟩
          case round =>
            obtain ⟨j, hj, rfl, HT, hbel⟩ := hrel
            replace hx := hx.below hbel
            replace hy := hy.below hbel
            replace hb0 := Below.then hb0 hbel
            obtain ⟨c0, -, -, -⟩ := id hx
            obtain ⟨d0, -, -, -⟩ := id hy
            by_cases hlt : j < N
            · obtain ⟨b, off, rfl, e1⟩ := IV.at hv j hlt
              obtain ⟨b', off', rfl, e2⟩ := IV.at hv' j hlt
              have e1 := keepc e1 hb0
              have e2 := keepc e2 hb0
              have hji : (j : Int) < (N : Int) := by omega
              generalize hx1 : ts.getD j 0 = x at e1
              generalize hy1 : us.getD j 0 = y at e2
              have HX := Lib.hid hx1
              have HY := Lib.hid hy1
              clear hx1 hy1
              by_cases hxy : x = y
              · subst hxy
                have HT' : Hid (∀ i, i < j + 1 → ts.getD i 0 = us.getD i 0) := Lib.hid (fun i hi => by
                  by_cases hij : i < j
                  · exact HT.out i hij
                  · obtain rfl : i = j := by omega
                    rw [HX.out, HY.out])
                go_wp2_with fail
                refine wp_region_noPanic ?_
                refine region_g 11 (Ext (World.drew _)) (by kernel_rfl) (Ext.refl _) (fun hS => ?_)
                refine take_w (i := 0) (v := ?_) (some 41) rfl (by kernel_rfl) rfl (fun _ _ _ h => h) (Or.inl ⟨by rfl, ?_⟩) hS ?_
                rotate_left
                · (intro wq hq; go_simp); first | done | with_reducible rfl
                try simp only [Act.put, List.setIfInBounds_toArray, List.set_cons_zero, List.set_cons_succ]
                replace hS := Till.list 0 hS
                refine take_w (i := 2) (v := ?_) (some 43) rfl (by kernel_rfl) rfl (fun _ _ _ h => h) (Or.inl ⟨by rfl, ?_⟩) hS ?_
                rotate_left
                · (intro wq hq; go_simp); first | done | with_reducible rfl
                try simp only [Act.put, List.setIfInBounds_toArray, List.set_cons_zero, List.set_cons_succ]
                replace hS := Till.list 2 hS
                refine take_w (i := 5) (v := ?_) (some 46) rfl (by kernel_rfl) rfl (fun _ _ _ h => h) (Or.inl ⟨by rfl, ?_⟩) hS ?_
                rotate_left
                · (intro wq hq; go_simp); first | done | with_reducible rfl
                try simp only [Act.put, List.setIfInBounds_toArray, List.set_cons_zero, List.set_cons_succ]
                replace hS := Till.list 5 hS
                refine take_w (i := 7) (v := ?_) (some 48) rfl (by kernel_rfl) rfl (fun _ _ _ h => h) (Or.inl ⟨by rfl, ?_⟩) hS ?_
                rotate_left
                · (intro wq hq; go_simp); first | done | with_reducible rfl
                try simp only [Act.put, List.setIfInBounds_toArray, List.set_cons_zero, List.set_cons_succ]
                replace hS := Till.list 7 hS
                refine take_n (i := 1) (v := ?_) (some 42) rfl (by kernel_rfl) rfl (fun _ _ _ h => h) (Or.inl ⟨by rfl, ?_⟩) hS ?_
                rotate_left
                · (intro wq hq; have q0 := hq _ _ _ c0; have q1 := hq _ _ _ d0; have q2 := hq _ _ _ e1; have q3 := hq _ _ _ e2; go_simp); first | done | with_reducible rfl
                try simp only [Act.put, List.setIfInBounds_toArray, List.set_cons_zero, List.set_cons_succ]
                replace hS := Till.list 1 hS
                refine take_n (i := 6) (v := ?_) (some 47) rfl (by kernel_rfl) rfl (fun _ _ _ h => h) (Or.inl ⟨by rfl, ?_⟩) hS ?_
                rotate_left
                · (intro wq hq; have q0 := hq _ _ _ c0; have q1 := hq _ _ _ d0; have q2 := hq _ _ _ e1; have q3 := hq _ _ _ e2; go_simp); first | done | with_reducible rfl
                try simp only [Act.put, List.setIfInBounds_toArray, List.set_cons_zero, List.set_cons_succ]
                replace hS := Till.list 6 hS
                refine take_w (i := 3) (v := ?_) (some 44) rfl (by kernel_rfl) rfl (fun _ _ _ h => h) (Or.inl ⟨by rfl, ?_⟩) hS ?_
                rotate_left
                · (intro wq hq; go_simp); first | done | with_reducible rfl
                try simp only [Act.put, List.setIfInBounds_toArray, List.set_cons_zero, List.set_cons_succ]
                replace hS := Till.list 3 hS
                refine take_w (i := 8) (v := ?_) (some 49) rfl (by kernel_rfl) rfl (fun _ _ _ h => h) (Or.inl ⟨by rfl, ?_⟩) hS ?_
                rotate_left
                · (intro wq hq; go_simp); first | done | with_reducible rfl
                try simp only [Act.put, List.setIfInBounds_toArray, List.set_cons_zero, List.set_cons_succ]
                replace hS := Till.list 8 hS
                refine take_n (i := 4) (v := ?_) (some 45) rfl (by kernel_rfl) rfl (fun _ _ _ h => h) (Or.inl ⟨by rfl, ?_⟩) hS ?_
                rotate_left
                · (intro wq hq; have q0 := hq _ _ _ c0; have q1 := hq _ _ _ d0; have q2 := hq _ _ _ e1; have q3 := hq _ _ _ e2; go_simp); first | done | with_reducible rfl
                try simp only [Act.put, List.setIfInBounds_toArray, List.set_cons_zero, List.set_cons_succ]
                replace hS := Till.list 4 hS
                refine take_n (i := 9) (v := ?_) (some 50) rfl (by kernel_rfl) rfl (fun _ _ _ h => h) (Or.inl ⟨by rfl, ?_⟩) hS ?_
                rotate_left
                · (intro wq hq; have q0 := hq _ _ _ c0; have q1 := hq _ _ _ d0; have q2 := hq _ _ _ e1; have q3 := hq _ _ _ e2; go_simp); first | done | with_reducible rfl
                try simp only [Act.put, List.setIfInBounds_toArray, List.set_cons_zero, List.set_cons_succ]
                replace hS := Till.list 9 hS
                refine take_w (i := 10) (v := ?_) (some 51) rfl (by kernel_rfl) rfl (fun _ _ _ h => h) (Or.inl ⟨by rfl, ?_⟩) hS ?_
                rotate_left
                · (intro wq hq; go_simp); first | done | with_reducible rfl
                try simp only [Act.put, List.setIfInBounds_toArray, List.set_cons_zero, List.set_cons_succ]
                replace hS := Till.list 10 hS
                refine done_g (by kernel_rfl) (NoPanic.normal ?_) _
                clear hS
                go_wp2_with fail
                go_roundw
                case rel => exact ⟨j + 1, by omega, by go_num, HT', hbel.drew⟩
                case measure => simp [intOf]; omega
              · have hne : (x == y) = false := by rw [beq_eq_false_iff_ne]; exact hxy
                have HF : Hid (sameS ts k m g us k m g = false) := Lib.hid (decide_eq_false (fun h => hxy (by rw [← HX.out, ← HY.out, h.1])))
                go_wp2_with fail
                refine wp_region_noPanic ?_
                refine region_g 11 (Ext (World.drew _)) (by kernel_rfl) (Ext.refl _) (fun hS => ?_)
                refine take_w (i := 0) (v := ?_) (some 41) rfl (by kernel_rfl) rfl (fun _ _ _ h => h) (Or.inl ⟨by rfl, ?_⟩) hS ?_
                rotate_left
                · (intro wq hq; go_simp); first | done | with_reducible rfl
                try simp only [Act.put, List.setIfInBounds_toArray, List.set_cons_zero, List.set_cons_succ]
                replace hS := Till.list 0 hS
                refine take_w (i := 2) (v := ?_) (some 43) rfl (by kernel_rfl) rfl (fun _ _ _ h => h) (Or.inl ⟨by rfl, ?_⟩) hS ?_
                rotate_left
                · (intro wq hq; go_simp); first | done | with_reducible rfl
                try simp only [Act.put, List.setIfInBounds_toArray, List.set_cons_zero, List.set_cons_succ]
                replace hS := Till.list 2 hS
                refine take_w (i := 5) (v := ?_) (some 46) rfl (by kernel_rfl) rfl (fun _ _ _ h => h) (Or.inl ⟨by rfl, ?_⟩) hS ?_
                rotate_left
                · (intro wq hq; go_simp); first | done | with_reducible rfl
                try simp only [Act.put, List.setIfInBounds_toArray, List.set_cons_zero, List.set_cons_succ]
                replace hS := Till.list 5 hS
                refine take_w (i := 7) (v := ?_) (some 48) rfl (by kernel_rfl) rfl (fun _ _ _ h => h) (Or.inl ⟨by rfl, ?_⟩) hS ?_
                rotate_left
                · (intro wq hq; go_simp); first | done | with_reducible rfl
                try simp only [Act.put, List.setIfInBounds_toArray, List.set_cons_zero, List.set_cons_succ]
                replace hS := Till.list 7 hS
                refine take_n (i := 1) (v := ?_) (some 42) rfl (by kernel_rfl) rfl (fun _ _ _ h => h) (Or.inl ⟨by rfl, ?_⟩) hS ?_
                rotate_left
                · (intro wq hq; have q0 := hq _ _ _ c0; have q1 := hq _ _ _ d0; have q2 := hq _ _ _ e1; have q3 := hq _ _ _ e2; go_simp); first | done | with_reducible rfl
                try simp only [Act.put, List.setIfInBounds_toArray, List.set_cons_zero, List.set_cons_succ]
                replace hS := Till.list 1 hS
                refine take_n (i := 6) (v := ?_) (some 47) rfl (by kernel_rfl) rfl (fun _ _ _ h => h) (Or.inl ⟨by rfl, ?_⟩) hS ?_
                rotate_left
                · (intro wq hq; have q0 := hq _ _ _ c0; have q1 := hq _ _ _ d0; have q2 := hq _ _ _ e1; have q3 := hq _ _ _ e2; go_simp); first | done | with_reducible rfl
                try simp only [Act.put, List.setIfInBounds_toArray, List.set_cons_zero, List.set_cons_succ]
                replace hS := Till.list 6 hS
                refine take_w (i := 3) (v := ?_) (some 44) rfl (by kernel_rfl) rfl (fun _ _ _ h => h) (Or.inl ⟨by rfl, ?_⟩) hS ?_
                rotate_left
                · (intro wq hq; go_simp); first | done | with_reducible rfl
                try simp only [Act.put, List.setIfInBounds_toArray, List.set_cons_zero, List.set_cons_succ]
                replace hS := Till.list 3 hS
                refine take_w (i := 8) (v := ?_) (some 49) rfl (by kernel_rfl) rfl (fun _ _ _ h => h) (Or.inl ⟨by rfl, ?_⟩) hS ?_
                rotate_left
                · (intro wq hq; go_simp); first | done | with_reducible rfl
                try simp only [Act.put, List.setIfInBounds_toArray, List.set_cons_zero, List.set_cons_succ]
                replace hS := Till.list 8 hS
                refine take_n (i := 4) (v := ?_) (some 45) rfl (by kernel_rfl) rfl (fun _ _ _ h => h) (Or.inl ⟨by rfl, ?_⟩) hS ?_
                rotate_left
                · (intro wq hq; have q0 := hq _ _ _ c0; have q1 := hq _ _ _ d0; have q2 := hq _ _ _ e1; have q3 := hq _ _ _ e2; go_simp); first | done | with_reducible rfl
                try simp only [Act.put, List.setIfInBounds_toArray, List.set_cons_zero, List.set_cons_succ]
                replace hS := Till.list 4 hS
                refine take_n (i := 9) (v := ?_) (some 50) rfl (by kernel_rfl) rfl (fun _ _ _ h => h) (Or.inl ⟨by rfl, ?_⟩) hS ?_
                rotate_left
                · (intro wq hq; have q0 := hq _ _ _ c0; have q1 := hq _ _ _ d0; have q2 := hq _ _ _ e1; have q3 := hq _ _ _ e2; go_simp); first | done | with_reducible rfl
                try simp only [Act.put, List.setIfInBounds_toArray, List.set_cons_zero, List.set_cons_succ]
                replace hS := Till.list 9 hS
                refine take_w (i := 10) (v := ?_) (some 51) rfl (by kernel_rfl) rfl (fun _ _ _ h => h) (Or.inl ⟨by rfl, ?_⟩) hS ?_
                rotate_left
                · (intro wq hq; go_simp); first | done | with_reducible rfl
                try simp only [Act.put, List.setIfInBounds_toArray, List.set_cons_zero, List.set_cons_succ]
                replace hS := Till.list 10 hS
                refine done_g (by kernel_rfl) (NoPanic.normal ?_) _
                clear hS
                go_wp2_with fail
                go_ret
                exact ⟨by rw [HF.out]; rfl, hb0.drew⟩
            · obtain rfl : j = N := by omega
              have HF : Hid (sameS ts k m g us k m g = true) := Lib.hid (decide_eq_true ⟨list_getD (by rw [hl.out, hl'.out]) (fun i hi => HT.out i (by rw [← hl.out]; exact hi)), rfl, rfl, rfl⟩)
              go_wp2_with fail
              go_ret
              exact ⟨by rw [HF.out]; rfl, hb0⟩
        · have hne : (g == g') = false := by rw [beq_eq_false_iff_ne]; exact h4
          have HF : Hid (sameS ts k m g us k m g' = false) := Lib.hid (decide_eq_false (fun h => h4 h.2.2.2))
          go_enter Tryz.func27, Tryz.ntmps27
          go_wp2_with fail
          go_ret
          exact ⟨by rw [HF.out]; rfl, Joins.below_alloc2 _ _ _⟩
      · have hne : (m == m') = false := by rw [beq_eq_false_iff_ne]; exact h3
        have HF : Hid (sameS ts k m g us k m' g' = false) := Lib.hid (decide_eq_false (fun h => h3 h.2.2.1))
        go_enter Tryz.func27, Tryz.ntmps27
        go_wp2_with fail
        go_ret
        exact ⟨by rw [HF.out]; rfl, Joins.below_alloc2 _ _ _⟩
    · have hne : (k == k') = false := by rw [beq_eq_false_iff_ne]; exact h2
      have HF : Hid (sameS ts k m g us k' m' g' = false) := Lib.hid (decide_eq_false (fun h => h2 h.2.1))
      go_enter Tryz.func27, Tryz.ntmps27
      go_wp2_with fail
      go_ret
      exact ⟨by rw [HF.out]; rfl, Joins.below_alloc2 _ _ _⟩
  · have hne : ((N : Int) == (N' : Int)) = false := by rw [beq_eq_false_iff_ne]; omega
    have HF : Hid (sameS ts k m g us k' m' g' = false) := Lib.hid (decide_eq_false (fun h => h1 (by rw [← hl.out, ← hl'.out, h.1])))
    go_enter Tryz.func27, Tryz.ntmps27
    go_wp2_with fail
    go_ret
    exact ⟨by rw [HF.out]; rfl, Joins.below_alloc2 _ _ _⟩
end Go.Proofs.YtbfihajgjbpmaaaGreat
