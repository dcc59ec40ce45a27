/- Contracts of the closure within schema.Take, and of Take. -/
import Derived.Test.YtllgnafbemmcaaaS4r
import Derived.Test.YtllgnafbemmcaaaS4f
import Derived.Test.YtllgnafbemmcaaaG5
import Derived.Deep.OwnRows
namespace Go.Proofs.Ytllgnafbemmcaaa
open Go.ChangeShapes Go.WideShapes Go.ChangeAt Go.RowKit
set_option linter.unusedVariables false

/-- a slice of n elements that lies below block B -/
def Low (B : Nat) (a : Option Addr) (n : Nat) : Prop := n = 0 ∨ ∀ x, a = some x → x.block < B
theorem Low.of {w : World} {a : Option Addr} {n : Nat} {zs : List Int} (h : BV w a n zs) : Low w.heap.size a n := by
  rcases h.2.2 with h3 | ⟨b, off, rfl, hc⟩
  · exact .inl h3
  · by_cases hn : n = 0
    · exact .inl hn
    · exact .inr (fun x hx => by cases hx; exact cell_lt (hc 0 (by omega)))
theorem Low.mono {B B' : Nat} {a : Option Addr} {n : Nat} (h : Low B a n) (hb : B ≤ B') : Low B' a n := h.imp id (fun h x hx => Nat.lt_of_lt_of_le (h x hx) hb)
theorem BV.set {w : World} {B i : Nat} {a : Option Addr} {n : Nat} {zs : List Int} (h : BV w a n zs) (hl : Low B a n) (u : Value) : BV (w.setCell ⟨B, i, none⟩ u) a n zs := by
  obtain ⟨h1, h2, h3⟩ := h
  refine ⟨h1, h2, ?_⟩
  rcases h3 with h3 | ⟨b, off, rfl, hc⟩
  · exact .inl h3
  · by_cases hn : n = 0
    · exact .inl hn
    refine .inr ⟨b, off, rfl, fun j hj => ?_⟩
    have hb : b < B := hl.resolve_left hn _ rfl
    rw [World.cell?_setCell_other _ _ _ _ (fun h => by cases h; omega)]
    exact hc j hj
/-- a slice that is cut from k on, as the walk writes it -/
theorem BV.cutA {w : World} {a : Option Addr} {n : Nat} {zs : List Int} (h : BV w a n zs) (k c : Nat) (hk : k ≤ n) (hc : n ≤ c) :
    BV w (if c = k then a else Option.map (fun x => x.add k) a) (n - k) (zs.drop k) := by
  obtain ⟨h1, h2, h3⟩ := id h
  rcases h3 with h3 | ⟨b, off, rfl, _⟩
  · have e : zs = [] := List.eq_nil_of_length_eq_zero (by omega)
    subst e
    exact ⟨by simp; omega, by simp, .inl (by omega)⟩
  · have := h.cut k c hk hc
    have ha : (⟨b, off, none⟩ : Addr).add k = ⟨b, off + k, none⟩ := by unfold Addr.add; split <;> simp_all
    simpa [ha] using this
theorem low_cut {B : Nat} {a : Option Addr} {n : Nat} (h : Low B a n) (p : Prop) [Decidable p] (k : Nat) : Low B (if p then a else Option.map (fun x => x.add k) a) (n - k) := by
  rcases h with h | h
  · exact .inl (by omega)
  · refine .inr fun x hx => ?_
    split at hx
    · exact h x hx
    · cases a with
      | none => cases hx
      | some y =>
        simp only [Option.map_some, Option.some.injEq] at hx
        have := h y rfl
        rw [← hx]
        unfold Addr.add
        split <;> exact this
/-- what the closure tells -/
def NextE (w w' : World) (B : Nat) (zs : List Int) (e : Ending) : Prop :=
  ∃ (a : Option Addr) (n c : Nat), e = .returned (.int .i64 (nx zs).1) ∧ w' = w.setCell ⟨B, 0, none⟩ (.slice a n c) ∧ BV w a n (nx zs).2 ∧ Low B a n ∧ n ≤ c ∧ n ≤ 1000000
set_option maxHeartbeats 1000000 in
theorem next_any (B : Nat) (a : Option Addr) (n c : Nat) (zs : List Int) (w : World) (hB : Bk w B #[.slice a n c] 26) (hv : BV w a n zs) (hl : Low B a n) (hc : n ≤ c) (hn : n ≤ 1000000) :
    Calls Try.prog 29 #[.pointer (some ⟨B, 0, none⟩)] w fun e w' => NextE w w' B zs e := by
  have c0 := hB.cell 0 (v := .slice a n c) rfl
  have f0 := hB.free 0
  have hbd := varR_bd zs hv.2.1
  rw [hv.1] at hbd
  obtain ⟨x, hx⟩ : ∃ x, (varR zs).1 = x := ⟨_, rfl⟩
  obtain ⟨s, hs, hsn⟩ : ∃ s : Nat, (varR zs).2 = (s : Int) ∧ s ≤ n := ⟨(varR zs).2.toNat, by omega, by omega⟩
  have HX : Hid ((nx zs).1 = IntKind.i64.wrap x) := Lib.hid (by rw [nx, hx])
  have HR : Hid ((nx zs).2 = zs.drop s) := Lib.hid (by rw [nx, hs]; simp)
  have hcut := hv.cutA s c hsn hc
  have hlow := low_cut hl (c = s) s
  have hsni : (s : Int) ≤ (n : Int) := by omega
  have hsc : s ≤ c := by omega
  go_enter Try.func29, Try.ntmps29
  go_wp2_with fail
  refine (var_any a n c zs _ hv).mono ?_
  rw [hx, hs]
  clear hbd hx hs hB hv
  rintro e w' ⟨rfl, rfl⟩
  by_cases hcs : c = s
  · rw [if_pos hcs] at hcut hlow
    subst hcs
    go_wp2_with fail
    go_ret
    exact ⟨_, _, _, ret_int (by rw [HX.out, IntKind.wrap_i64, wrap64]), rfl, by rw [HR.out]; rwa [show n - c = 0 by omega] at hcut, by rwa [show n - c = 0 by omega] at hlow, by omega, by omega⟩
  · rw [if_neg hcs] at hcut hlow
    go_wp2_with fail
    go_ret
    exact ⟨_, _, _, ret_int (by rw [HX.out, IntKind.wrap_i64, wrap64]), rfl, by rw [HR.out]; exact hcut, hlow, by omega, by omega⟩
theorem madeCells_int (n : Nat) : madeCells #[Value.int .i64 0] n = (icells (List.replicate n 0)).toArray := by
  refine Array.ext' ?_
  simp [madeCells, icells]
  refine List.ext_getElem (by simp) (fun i h1 h2 => ?_)
  simp [Nat.mod_one]
theorem make_ints (N : Nat) (h : N ≤ 64) (w : World) : (Instr.makeSlice 22 (.int .i64 (N : Int)) (.int .i64 (N : Int))).run Try.prog w = .ok (.slice (some ⟨w.heap.size, 0, none⟩) N N) (w.alloc (.cells (icells (List.replicate N 0)).toArray 3)) := by
  have := run_make_row' (P := Try.prog) 22 3 (.int .i64 0) 8 Try.underlying22 (by kernel_rfl) rfl .i64 .i64 N (by omega) (by omega) w
  rw [madeCells_int] at this
  exact this
theorem set_fill (l : List Int) (N : Nat) (x : Int) (h : l.length < N) : (icells (l ++ List.replicate (N - l.length) 0)).set l.length (.int .i64 x) = icells ((l ++ [x]) ++ List.replicate (N - (l.length + 1)) 0) := by
  obtain ⟨m, hm⟩ : ∃ m, N - l.length = m + 1 := ⟨N - l.length - 1, by omega⟩
  rw [hm, show N - (l.length + 1) = m from by omega, List.replicate_succ]
  simp [icells]
/-- what Take tells -/
def TakeE (w w' : World) (zs : List Int) (e : Ending) : Prop :=
  (∃ (A : Option Addr) (N C : Nat) (ts : List Int) (k m g : Int), e = .returned (.tuple #[SS A N C k m g, .int .i64 0]) ∧ checkB ts k m g = true ∧ putS ts k m g = zs ∧ IV w' A N ts ∧ Below w.heap.size w w') ∨
  (e = .returned (.tuple #[SS none 0 0 0 0 0, .int .i64 10]) ∧ NoS zs ∧ Below w.heap.size w w')
theorem res_ss2 {fn : Func} {p u : Tmp} (h : fn.results = #[.cell p 24, .tmp u]) (tmps : Array Value) {w : World} (b : Nat) {A : Option Addr} {N C : Nat} {k m g : Int} (hp : tmps.getD p undef = .pointer (some ⟨b, 0, none⟩)) (hc : Sx w b A N C k m g) :
    (results fn tmps).run Try.prog w = .ok (.tuple #[SS A N C k m g, tmps.getD u undef]) w := by
  rw [results_cell_tmp h, hp]
  simp [Result.andThen, asAddr, ld_ss b hc]
theorem few_max' {n : Nat} (h : n ≤ 1000000) : n ≤ maxLen := by unfold maxLen; omega
abbrev nil4 : Array Value := #[.slice none 0 0, .int .i64 0, .int .i64 0, .int .i64 0]
theorem size_set (w : World) (a : Addr) (u : Value) : (w.setCell a u).heap.size = w.heap.size := by simp [World.setCell]
theorem OS.setN {k : Nat} {w : World} {base b i g c : Nat} {n : Nat} {cs : List Value} (h : OS k w base (.slice (some ⟨g, 0, none⟩) n c) n cs) (hb : g ≠ b) (u : Value) : OS k (w.setCell ⟨b, i, none⟩ u) base (.slice (some ⟨g, 0, none⟩) n c) n cs := by
  obtain ⟨h1, h2, h3⟩ := h
  refine ⟨h1, h2, ?_⟩
  rcases h3 with ⟨h3, _⟩ | ⟨g', cap, cur, T, hv, hg, hh, hr⟩
  · cases h3
  · cases hv
    exact .inr ⟨g, c, cur, T, rfl, hg, (Below.heap_setCell _ _ _ _ hb).trans hh, hr⟩
set_option maxHeartbeats 4000000 in
theorem take_any (a : Option Addr) (n c : Nat) (zs : List Int) (w : World) (hv : BV w a n zs) (hc : n ≤ c) (hn : n ≤ 1000000) :
    Calls Try.prog 14 #[.slice a n c] w fun e w' => TakeE w w' zs e := by
  have HZ := Lib.hid hv.2.1
  have t2 := (Bk.new w nil4 24).alloc (.cells #[.slice a n c] 26)
  have t4 := Bk.new (w.alloc (.cells nil4 24)) #[.slice a n c] 26
  rw [heap_alloc] at t4
  have hv0 : BV ((w.alloc (.cells nil4 24)).alloc (.cells #[.slice a n c] 26)) a n zs := (hv.alloc _).alloc _
  have hl0 : Low (w.heap.size + 1) a n := (Low.of hv).mono (by omega)
  have hb0 : Below w.heap.size w ((w.alloc (.cells nil4 24)).alloc (.cells #[.slice a n c] 26)) := Joins.below_alloc2 _ _ _
  go_enter Try.func14, Try.ntmps14
  go_wp2_with fail
  refine (next_any (w.heap.size + 1) a n c zs _ t4 hv0 hl0 hc hn).mono ?_
  rintro e w1 ⟨a1, n1, c1, rfl, hw1, hv1, hl1, hc1, hn1⟩
  have t4' : Bk w1 (w.heap.size + 1) #[.slice a1 n1 c1] 26 := by rw [hw1]; exact t4.set 0 _
  have t2' : Bk w1 w.heap.size nil4 24 := by rw [hw1]; exact t2.other (by omega) _
  have hv1' : BV w1 a1 n1 (nx zs).2 := by rw [hw1]; exact hv1.set hl1 _
  have hb1 : Below w.heap.size w w1 := by rw [hw1]; exact hb0.setCell (by simp) _
  have hs1 : w1.heap.size = w.heap.size + 2 := by rw [hw1, size_set]; simp
  clear hw1 hv1 t4 t2 hv0 hb0 hl0
  go_wp2_with fail
  refine (upto_any 64 _ _).mono ?_
  rintro e w' ⟨rfl, rfl⟩
  cases h1 : upB 64 (nx zs).1
  · have HN := Lib.hid (no_count (zs := zs) (fun h => upB_no h1 h))
    obtain ⟨d0, d1, d2, d3⟩ := t2'.sx
    have f0 := t2'.free 0
    have f1 := t2'.free 1
    have f2 := t2'.free 2
    have f3 := t2'.free 3
    go_wp2_with fail
    refine bodyPost_ret (res_ss2 rfl _ _ rfl (t2'.put4 (.slice none 0 0) (.int .i64 0) (.int .i64 0) (.int .i64 0)).sx) rfl (.inr ⟨rfl, HN.out, ?_⟩)
    exact (((hb1.setCell (by simp) _).setCell (by simp) _).setCell (by simp) _).setCell (by simp) _
  · obtain ⟨N, hN, hN1, hN64⟩ : ∃ N : Nat, (nx zs).1 = (N : Int) ∧ 1 ≤ N ∧ N ≤ 64 := ⟨(nx zs).1.toNat, by have := upB_yes h1; omega, by have := upB_yes h1; omega, by have := upB_yes h1; omega⟩
    have hmk := make_ints N hN64
    have HC := Lib.hid hN
    rw [hN]
    clear h1 hN
    have bz : Hid (Bytes (nx zs).2) := Lib.hid (nx_bytes HZ.out)
    go_wp2_with fail
    have t7 := Bk.new (w'.alloc (.cells (icells (List.replicate N 0)).toArray 3)) #[.slice (some ⟨w.heap.size + 2, 0, none⟩) N N, .int .i64 0, .int .i64 0, .int .i64 0] 24
    rw [heap_alloc, hs1] at t7
    have ho := (OS.lit (k := 1) w' (w.heap.size + 2) (by omega) (icells (List.replicate N 0)) N 3 (by simp [icells]) (icells_one _) (few_max' (by omega)) (w.heap.size + 2) hs1.symm).alloc (.cells #[.slice (some ⟨w.heap.size + 2, 0, none⟩) N N, .int .i64 0, .int .i64 0, .int .i64 0] 24)
    have u2 := (t2'.alloc (.cells (icells (List.replicate N 0)).toArray 3)).alloc (.cells #[.slice (some ⟨w.heap.size + 2, 0, none⟩) N N, .int .i64 0, .int .i64 0, .int .i64 0] 24)
    have u4 := (t4'.alloc (.cells (icells (List.replicate N 0)).toArray 3)).alloc (.cells #[.slice (some ⟨w.heap.size + 2, 0, none⟩) N N, .int .i64 0, .int .i64 0, .int .i64 0] 24)
    have hv2 := (hv1'.alloc (.cells (icells (List.replicate N 0)).toArray 3)).alloc (.cells #[.slice (some ⟨w.heap.size + 2, 0, none⟩) N N, .int .i64 0, .int .i64 0, .int .i64 0] 24)
    have hb2 := (hb1.alloc (by omega) (.cells (icells (List.replicate N 0)).toArray 3)).alloc (by simp; omega) (.cells #[.slice (some ⟨w.heap.size + 2, 0, none⟩) N N, .int .i64 0, .int .i64 0, .int .i64 0] 24)
    clear hmk t2' t4' hv1' hb1
    generalize (w'.alloc (.cells (icells (List.replicate N 0)).toArray 3)).alloc (.cells #[.slice (some ⟨w.heap.size + 2, 0, none⟩) N N, .int .i64 0, .int .i64 0, .int .i64 0] 24) = w2 at *
    obtain ⟨r0, hr0⟩ : ∃ r0, (nx zs).2 = r0 := ⟨_, rfl⟩
    have HR0 := Lib.hid hr0
    rw [hr0] at bz hv2
    clear hr0 hs1
    generalize hbt : w.heap.size + 2 = bt at *
    have HBT := Lib.hid hbt
    clear hbt
    go_loopw [23] (fun i wr => ∃ (j : Nat) (a : Option Addr) (n c : Nat), j ≤ N ∧ i = .int .i64 (j : Int) ∧ Bk wr w.heap.size nil4 24 ∧ Bk wr (w.heap.size + 1) #[.slice a n c] 26 ∧ BV wr a n (nxs j r0).2 ∧ Low (w.heap.size + 1) a n ∧ n ≤ c ∧ n ≤ 1000000 ∧
      OS 1 wr bt (.slice (some ⟨bt, 0, none⟩) N N) N (icells ((nxs j r0).1 ++ List.replicate (N - j) 0)) ∧ Bk wr (bt + 1) #[.slice (some ⟨bt, 0, none⟩) N N, .int .i64 0, .int .i64 0, .int .i64 0] 24 ∧ Below w.heap.size w wr) (fun i _ => N - (intOf i).toNat)
    case atStart => exact ⟨0, a1, n1, c1, by omega, rfl, u2, u4, hv2, hl1, hc1, hn1, by simpa [nxs] using ho, t7, hb2⟩
    case round =>
      clear ho t7 u2 u4 hv2 hb2 hl1 hc1 hn1 hv hc hn
      obtain ⟨j, aj, nj, cj, hj, rfl, u2, u4, hv, hl, hc, hn, ho, t7, hb⟩ := hrel
      by_cases hlt : j < N
      · have d0 := t7.cell 0 (v := .slice (some ⟨bt, 0, none⟩) N N) rfl
        have hNi : (j : Int) < (N : Int) := by omega
        go_wp2_with fail
        refine wp_region_noPanic ?_
        refine region_g 6 (fun wq => wq.cell? ⟨bt + 1, 0, none⟩ = some (.slice (some ⟨bt, 0, none⟩) N N)) (by kernel_rfl) (d0) (fun hS => ?_)
        refine take_w (i := 0) (v := ?_) (some 26) rfl (by kernel_rfl) rfl (fun _ _ _ h => h) (Or.inl ⟨by rfl, ?_⟩) hS ?_
        rotate_left
        · (intro wq hq; go_simp); first | done | with_reducible rfl
        try simp only [Act.put, List.setIfInBounds_toArray, List.set_cons_zero, List.set_cons_succ]
        replace hS := Till.list 0 hS
        refine take_w (i := 2) (v := ?_) (some 28) rfl (by kernel_rfl) rfl (fun _ _ _ h => h) (Or.inl ⟨by rfl, ?_⟩) hS ?_
        rotate_left
        · (intro wq hq; go_simp); first | done | with_reducible rfl
        try simp only [Act.put, List.setIfInBounds_toArray, List.set_cons_zero, List.set_cons_succ]
        replace hS := Till.list 2 hS
        refine take_w (i := 3) (v := ?_) (some 29) rfl (by kernel_rfl) rfl (fun _ _ _ h => h) (Or.inl ⟨by rfl, ?_⟩) hS ?_
        rotate_left
        · (intro wq hq; go_simp); first | done | with_reducible rfl
        try simp only [Act.put, List.setIfInBounds_toArray, List.set_cons_zero, List.set_cons_succ]
        replace hS := Till.list 3 hS
        refine take_g (i := 1) (v := ?_) [1] (some 27) rfl (by kernel_rfl) rfl (fun _ _ _ h => h) (Or.inl ⟨by rfl, ?_⟩) hS ?_
        rotate_left
        · (intro wq hq; skip; go_simp); first | done | with_reducible rfl
        try simp only [Act.put, List.setIfInBounds_toArray, List.set_cons_zero, List.set_cons_succ]
        replace hS := Till.list 1 hS
        refine ready_g (rs := [4]) (by kernel_rfl) (by simp) ?_
        refine AllReadyG.cons rfl (fun Kont hK => ?_) AllReadyG.nil
        go_simp
        refine (next_any (w.heap.size + 1) aj nj cj (nxs j r0).2 _ u4.drew hv.drew hl hc hn).mono ?_
        rintro e w3 ⟨a3, n3, c3, rfl, hw3, hv3, hl3, hc3, hn3⟩
        have hbt := HBT.out
        have v2 : Bk w3 w.heap.size nil4 24 := by rw [hw3]; exact u2.drew.other (by omega) _
        have v4 : Bk w3 (w.heap.size + 1) #[.slice a3 n3 c3] 26 := by rw [hw3]; exact u4.drew.set 0 _
        have v7 : Bk w3 (bt + 1) #[.slice (some ⟨bt, 0, none⟩) N N, .int .i64 0, .int .i64 0, .int .i64 0] 24 := by rw [hw3]; exact t7.drew.other (by omega) _
        have vo : OS 1 w3 bt (.slice (some ⟨bt, 0, none⟩) N N) N (icells ((nxs j r0).1 ++ List.replicate (N - j) 0)) := by rw [hw3]; exact ho.drew.set (by omega) _
        have vv : BV w3 a3 n3 (nx (nxs j r0).2).2 := by rw [hw3]; exact hv3.set hl3 _
        have vb : Below w.heap.size w w3 := by rw [hw3]; exact hb.drew.setCell (by simp) _
        have d3 := v7.cell 0 (v := .slice (some ⟨bt, 0, none⟩) N N) rfl
        refine hK.out _ _ (Or.inr (d3)) (fun hS0 => ?_)
        clear hK Kont
        try simp only [Act.put, List.setIfInBounds_toArray, List.set_cons_zero, List.set_cons_succ]
        clear hS
        have hS := hS0
        clear hS0
        clear hw3 hv3 u2 u4 t7 ho hv hl hc hn hb
        obtain ⟨_, _, hA, -, -, -, celo, free, setv⟩ := vo.own hN1
        cases hA
        have e1 := celo j _ (List.getElem?_eq_getElem (by rw [vo.1]; omega))
        have f1 := free j
        have vn := setv j (.int .i64 (nx (nxs j r0).2).1) (by omega) rfl
        have hsf := set_fill (nxs j r0).1 N (nx (nxs j r0).2).1 (by rw [nxs_len]; exact hlt)
        rw [nxs_len] at hsf
        rw [hsf] at vn
        clear celo free setv hsf
        refine take_w (i := 5) (v := ?_) (some 31) rfl (by kernel_rfl) rfl (fun _ _ _ h => h) (Or.inl ⟨by rfl, ?_⟩) hS ?_
        rotate_left
        · (intro wq hq; go_simp); first | done | with_reducible rfl
        try simp only [Act.put, List.setIfInBounds_toArray, List.set_cons_zero, List.set_cons_succ]
        replace hS := Till.list 5 hS
        refine ready_g (rs := [6]) (by kernel_rfl) (by simp) ?_
        refine AllReadyG.cons rfl (fun Kont hK => ?_) AllReadyG.nil
        go_simp
        refine hK.out _ _ (Or.inl (by kernel_rfl)) (fun hS0 => ?_)
        clear hK Kont
        try simp only [Act.put, List.setIfInBounds_toArray, List.set_cons_zero, List.set_cons_succ]
        clear hS
        have hS := hS0
        clear hS0
        refine done_g (by kernel_rfl) (NoPanic.normal ?_) _
        clear hS
        have y2 := v2.other (c := bt) (i := j) (by omega) (.int .i64 (nx (nxs j r0).2).1)
        have y4 := v4.other (c := bt) (i := j) (by omega) (.int .i64 (nx (nxs j r0).2).1)
        have y7 := v7.other (c := bt) (i := j) (by omega) (.int .i64 (nx (nxs j r0).2).1)
        have yv := vv.set (B := bt) (i := j) (hl3.mono (by omega)) (.int .i64 (nx (nxs j r0).2).1)
        have yb := vb.setCell (p := ⟨bt, j, none⟩) (by show w.heap.size ≤ bt; omega) (.int .i64 (nx (nxs j r0).2).1)
        clear v2 v4 v7 vv vb vo e1 f1 d0 d3 hbt
        go_wp2_with fail
        go_roundw
        case rel => exact ⟨j + 1, a3, n3, c3, by omega, by go_num, y2, y4, yv, hl3, hc3, hn3, vn, y7, yb⟩
        case measure => simp [intOf]; omega
      · obtain rfl : j = N := by omega
        rw [Nat.sub_self, List.replicate_zero, List.append_nil] at ho
        have hbt := HBT.out
        have HT : Hid ((nxs j r0).1.length = j) := Lib.hid (nxs_len _ _)
        have hrn := nx_rng
        go_wp2_with fail
        refine (next_any (w.heap.size + 1) _ _ _ (nxs j r0).2 _ u4 hv hl hc hn).mono ?_
        rintro e w3 ⟨a3, n3, c3, rfl, hw3, hv3, hl3, hc3, hn3⟩
        replace u2 : Bk w3 w.heap.size nil4 24 := by rw [hw3]; exact u2.other (by omega) _
        replace u4 : Bk w3 (w.heap.size + 1) #[.slice a3 n3 c3] 26 := by rw [hw3]; exact u4.set 0 _
        replace t7 := t7.other (c := w.heap.size + 1) (i := 0) (by omega) (.slice a3 n3 c3)
        rw [← hw3] at t7
        replace ho : OS 1 w3 bt (.slice (some ⟨bt, 0, none⟩) j j) j (icells (nxs j r0).1) := by rw [hw3]; exact ho.set (by omega) _
        replace hv : BV w3 a3 n3 (nx (nxs j r0).2).2 := by rw [hw3]; exact hv3.set hl3 _
        replace hb : Below w.heap.size w w3 := by rw [hw3]; exact hb.setCell (by simp) _
        replace hl := hl3
        replace hc := hc3
        replace hn := hn3
        clear hw3 hv3 hl3 hc3 hn3
        have d3 := t7.cell 1 rfl
        have f3 := t7.free 1
        go_wp2_with fail
        clear d3 f3
        replace u2 := u2.other (c := bt + 1) (i := 1) (by omega) (.int .i64 (nx (nxs j r0).2).1)
        replace u4 := u4.other (c := bt + 1) (i := 1) (by omega) (.int .i64 (nx (nxs j r0).2).1)
        replace hv := hv.set (B := bt + 1) (i := 1) (hl.mono (by omega)) (.int .i64 (nx (nxs j r0).2).1)
        replace ho := ho.setN (b := bt + 1) (i := 1) (by omega) (.int .i64 (nx (nxs j r0).2).1)
        replace t7 : Bk _ (bt + 1) #[.slice (some ⟨bt, 0, none⟩) j j, .int .i64 (nx (nxs j r0).2).1, .int .i64 0, .int .i64 0] 24 := t7.set 1 (.int .i64 (nx (nxs j r0).2).1)
        replace hb := hb.setCell (p := ⟨bt + 1, 1, none⟩) (by show w.heap.size ≤ bt + 1; omega) (.int .i64 (nx (nxs j r0).2).1)
        generalize w3.setCell ⟨bt + 1, 1, none⟩ (.int .i64 (nx (nxs j r0).2).1) = w3 at *
        refine (next_any (w.heap.size + 1) _ _ _ (nx (nxs j r0).2).2 _ u4 hv hl hc hn).mono ?_
        rintro e w4 ⟨a3, n3, c3, rfl, hw3, hv3, hl3, hc3, hn3⟩
        replace u2 : Bk w4 w.heap.size nil4 24 := by rw [hw3]; exact u2.other (by omega) _
        replace u4 : Bk w4 (w.heap.size + 1) #[.slice a3 n3 c3] 26 := by rw [hw3]; exact u4.set 0 _
        replace t7 := t7.other (c := w.heap.size + 1) (i := 0) (by omega) (.slice a3 n3 c3)
        rw [← hw3] at t7
        replace ho : OS 1 w4 bt (.slice (some ⟨bt, 0, none⟩) j j) j (icells (nxs j r0).1) := by rw [hw3]; exact ho.set (by omega) _
        replace hv : BV w4 a3 n3 (nx (nx (nxs j r0).2).2).2 := by rw [hw3]; exact hv3.set hl3 _
        replace hb : Below w.heap.size w w4 := by rw [hw3]; exact hb.setCell (by simp) _
        replace hl := hl3
        replace hc := hc3
        replace hn := hn3
        clear hw3 hv3 hl3 hc3 hn3
        have d3 := t7.cell 2 rfl
        have f3 := t7.free 2
        go_wp2_with fail
        clear d3 f3
        replace u2 := u2.other (c := bt + 1) (i := 2) (by omega) (.int .i64 (nx (nx (nxs j r0).2).2).1)
        replace u4 := u4.other (c := bt + 1) (i := 2) (by omega) (.int .i64 (nx (nx (nxs j r0).2).2).1)
        replace hv := hv.set (B := bt + 1) (i := 2) (hl.mono (by omega)) (.int .i64 (nx (nx (nxs j r0).2).2).1)
        replace ho := ho.setN (b := bt + 1) (i := 2) (by omega) (.int .i64 (nx (nx (nxs j r0).2).2).1)
        replace t7 : Bk _ (bt + 1) #[.slice (some ⟨bt, 0, none⟩) j j, .int .i64 (nx (nxs j r0).2).1, .int .i64 (nx (nx (nxs j r0).2).2).1, .int .i64 0] 24 := t7.set 2 (.int .i64 (nx (nx (nxs j r0).2).2).1)
        replace hb := hb.setCell (p := ⟨bt + 1, 2, none⟩) (by show w.heap.size ≤ bt + 1; omega) (.int .i64 (nx (nx (nxs j r0).2).2).1)
        generalize w4.setCell ⟨bt + 1, 2, none⟩ (.int .i64 (nx (nx (nxs j r0).2).2).1) = w4 at *
        refine (next_any (w.heap.size + 1) _ _ _ (nx (nx (nxs j r0).2).2).2 _ u4 hv hl hc hn).mono ?_
        rintro e w5 ⟨a3, n3, c3, rfl, hw3, hv3, hl3, hc3, hn3⟩
        replace u2 : Bk w5 w.heap.size nil4 24 := by rw [hw3]; exact u2.other (by omega) _
        replace u4 : Bk w5 (w.heap.size + 1) #[.slice a3 n3 c3] 26 := by rw [hw3]; exact u4.set 0 _
        replace t7 := t7.other (c := w.heap.size + 1) (i := 0) (by omega) (.slice a3 n3 c3)
        rw [← hw3] at t7
        replace ho : OS 1 w5 bt (.slice (some ⟨bt, 0, none⟩) j j) j (icells (nxs j r0).1) := by rw [hw3]; exact ho.set (by omega) _
        replace hv : BV w5 a3 n3 (nx (nx (nx (nxs j r0).2).2).2).2 := by rw [hw3]; exact hv3.set hl3 _
        replace hb : Below w.heap.size w w5 := by rw [hw3]; exact hb.setCell (by simp) _
        replace hl := hl3
        replace hc := hc3
        replace hn := hn3
        clear hw3 hv3 hl3 hc3 hn3
        have d3 := t7.cell 3 rfl
        have f3 := t7.free 3
        have e4 := u4.cell 0 (v := .slice a3 n3 c3) rfl
        have hB7 : w.heap.size + 1 < bt + 1 := by omega
        have hB2 : w.heap.size < bt + 1 := by omega
        have s0 := t7.cell 0 rfl
        have s1 := t7.cell 1 rfl
        have s2 := t7.cell 2 rfl
        have HS : Hid (∀ ts k m g r, ts = (nxs j r0).1 → k = (nx (nxs j r0).2).1 → m = (nx (nx (nxs j r0).2).2).1 → g = (nx (nx (nx (nxs j r0).2).2).2).1 → r = (nx (nx (nx (nxs j r0).2).2).2).2 → Says zs ts k m g r) := Lib.hid (by
          intro ts k m g r e1 e2 e3 e4 e5
          have hl : ts.length = j := by rw [e1]; exact nxs_len _ _
          refine ⟨by rw [HC.out, hl], ?_, ?_, ?_, ?_, ?_⟩ <;> rw [HR0.out, hl]
          · exact e1.symm
          · exact e2.symm
          · exact e3.symm
          · exact e4.symm
          · exact e5.symm)
        have HL := Lib.hid hv.1
        by_cases h0 : n3 = 0
        · have HE : Hid ((nx (nx (nx (nxs j r0).2).2).2).2 = []) := Lib.hid (List.eq_nil_of_length_eq_zero (by rw [HL.out]; exact h0))
          subst h0
          go_wp2_with fail
          clear d3 f3 e4 s0 s1 s2
          replace u2 := u2.other (c := bt + 1) (i := 3) (by omega) (.int .i64 (nx (nx (nx (nxs j r0).2).2).2).1)
          replace u4 := u4.other (c := bt + 1) (i := 3) (by omega) (.int .i64 (nx (nx (nx (nxs j r0).2).2).2).1)
          replace hv := hv.set (B := bt + 1) (i := 3) (hl.mono (by omega)) (.int .i64 (nx (nx (nx (nxs j r0).2).2).2).1)
          replace ho := ho.setN (b := bt + 1) (i := 3) (by omega) (.int .i64 (nx (nx (nx (nxs j r0).2).2).2).1)
          replace t7 : Bk _ (bt + 1) #[.slice (some ⟨bt, 0, none⟩) j j, .int .i64 (nx (nxs j r0).2).1, .int .i64 (nx (nx (nxs j r0).2).2).1, .int .i64 (nx (nx (nx (nxs j r0).2).2).2).1] 24 := t7.set 3 (.int .i64 (nx (nx (nx (nxs j r0).2).2).2).1)
          replace hb := hb.setCell (p := ⟨bt + 1, 3, none⟩) (by show w.heap.size ≤ bt + 1; omega) (.int .i64 (nx (nx (nx (nxs j r0).2).2).2).1)
          generalize w5.setCell ⟨bt + 1, 3, none⟩ (.int .i64 (nx (nx (nx (nxs j r0).2).2).2).1) = w5 at *
          obtain ⟨ts, hts⟩ : ∃ ts, (nxs j r0).1 = ts := ⟨_, rfl⟩
          obtain ⟨k, hkk⟩ : ∃ k, (nx (nxs j r0).2).1 = k := ⟨_, rfl⟩
          obtain ⟨m, hmm⟩ : ∃ m, (nx (nx (nxs j r0).2).2).1 = m := ⟨_, rfl⟩
          obtain ⟨g, hgg⟩ : ∃ g, (nx (nx (nx (nxs j r0).2).2).2).1 = g := ⟨_, rfl⟩
          have hsay := HS.out ts k m g [] hts.symm hkk.symm hmm.symm hgg.symm HE.out.symm
          rw [hts] at ho
          rw [hkk, hmm, hgg] at t7 ⊢
          clear HS HE HL hts hkk hmm hgg hrn hv
          have hsay := Lib.hid hsay
          obtain ⟨_, _, hA, -, -, hiv, -⟩ := ho.sv
          cases hA
          refine (check_any (some ⟨bt, 0, none⟩) j j ts k m g _ hiv (few_max' (by omega))).mono ?_
          rintro e w6 ⟨rfl, hb6⟩
          replace u2 := u2.below hb6
          replace t7 := t7.below hb6
          replace ho := ho.below hb6
          replace hb := Below.then hb hb6
          clear hb6 hiv
          obtain ⟨g0, g1, g2, g3⟩ := u2.sx
          have f0 := u2.free 0
          have f1 := u2.free 1
          have f2 := u2.free 2
          have f3 := u2.free 3
          cases hck : checkB ts k m g
          · rw [show chkE ts k m g = 20 from by rw [chkE, hck]; rfl]
            have HN := Lib.hid (no_says hsay.out (.inr hck))
            clear hck
            go_wp2_with fail
            refine bodyPost_ret (res_ss2 rfl _ _ rfl (u2.put4 (.slice none 0 0) (.int .i64 0) (.int .i64 0) (.int .i64 0)).sx) rfl (.inr ⟨rfl, HN.out, ?_⟩)
            exact (((hb.setCell (by simp) _).setCell (by simp) _).setCell (by simp) _).setCell (by simp) _
          · rw [show chkE ts k m g = 0 from by rw [chkE, hck]; rfl]
            have HP := Lib.hid (says_put HZ.out hsay.out hck)
            have HK := Lib.hid hck
            obtain ⟨s0, s1, s2, s3⟩ := t7.sx
            clear hck
            obtain ⟨_, _, hA, -, -, hivr, -⟩ := ho.sv
            cases hA
            have hbw : bt ≠ w.heap.size := by omega
            go_wp2_with fail
            refine bodyPost_ret (res_ss2 rfl _ _ rfl (u2.put4 (.slice (some ⟨bt, 0, none⟩) j j) (.int .i64 k) (.int .i64 m) (.int .i64 g)).sx) rfl (.inl ⟨_, _, _, ts, k, m, g, rfl, HK.out, HP.out, ?_, ?_⟩)
            · exact (((SV.set hivr (fun x hx => by cases hx; exact hbw) _).set (fun x hx => by cases hx; exact hbw) _).set (fun x hx => by cases hx; exact hbw) _).set (fun x hx => by cases hx; exact hbw) _
            · exact (((hb.setCell (by simp) _).setCell (by simp) _).setCell (by simp) _).setCell (by simp) _
        · have HE : Hid ((nx (nx (nx (nxs j r0).2).2).2).2 ≠ []) := Lib.hid (fun h => h0 (by rw [← HL.out, h]; rfl))
          have HN := Lib.hid (no_says (HS.out _ _ _ _ _ rfl rfl rfl rfl rfl) (.inl HE.out))
          have hn0 : (0 : Int) < (n3 : Int) := by omega
          obtain ⟨g0, g1, g2, g3⟩ := u2.sx
          have f0 := u2.free 0
          have f1 := u2.free 1
          have f2 := u2.free 2
          have f4 := u2.free 3
          clear HS HE
          go_wp2_with fail
          refine bodyPost_ret (res_ss2 rfl _ _ rfl ((u2.other (c := bt + 1) (i := 3) (by omega) (.int .i64 (nx (nx (nx (nxs j r0).2).2).2).1)).put4 (.slice none 0 0) (.int .i64 0) (.int .i64 0) (.int .i64 0)).sx) rfl (.inr ⟨rfl, HN.out, ?_⟩)
          exact ((((hb.setCell (p := ⟨bt + 1, 3, none⟩) (by show w.heap.size ≤ bt + 1; omega) _).setCell (by simp) _).setCell (by simp) _).setCell (by simp) _).setCell (by simp) _
end Go.Proofs.Ytllgnafbemmcaaa
