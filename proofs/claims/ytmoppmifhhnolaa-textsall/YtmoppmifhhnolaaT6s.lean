/- Contract of readEach. -/
import Derived.Test.YtmoppmifhhnolaaT6r
namespace Go.Proofs.Ytmoppmifhhnolaa
open Go.ChangeShapes Go.WideShapes Go.ChangeAt Go.RowKit
set_option linter.unusedVariables false

theorem madeCells_text (n : Nat) : madeCells #[Value.string ⟨#[]⟩] n = (tcells (List.replicate n ⟨#[]⟩)).toArray := by
  refine Array.ext' ?_
  simp [madeCells, tcells]
  refine List.ext_getElem (by simp) (fun i h1 h2 => ?_)
  simp [Nat.mod_one]
theorem make_texts (N : Nat) (h : N ≤ 2000) (w : World) : (Instr.makeSlice 22 (.int .i64 (N : Int)) (.int .i64 (N : Int))).run Try.prog w = .ok (.slice (some ⟨w.heap.size, 0, none⟩) N N) (w.alloc (.cells (tcells (List.replicate N ⟨#[]⟩)).toArray 9)) := by
  have := run_make_row' (P := Try.prog) 22 9 (.string ⟨#[]⟩) 16 Try.underlying22 (by kernel_rfl) rfl .i64 .i64 N (by omega) (by omega) w
  rw [madeCells_text] at this
  exact this
theorem OS.beginT {w : World} {N : Nat} (h : N ≤ maxLen) (base : Nat) (hb : base ≤ w.heap.size) : OS 1 (w.alloc (.cells (tcells (List.replicate N ⟨#[]⟩)).toArray 9)) base (.slice (some ⟨w.heap.size, 0, none⟩) N N) N (tcells ([] ++ List.replicate (N - 0) ⟨#[]⟩)) := by
  rw [List.nil_append, Nat.sub_zero]
  exact OS.lit (k := 1) w base hb _ N 9 (by simp [tcells]) (tcells_one _) h _ rfl
theorem fillT_at {p : List ByteArray} {j N : Nat} (hp : p.length = j) (h : j < N) : (tcells (p ++ List.replicate (N - j) ⟨#[]⟩))[j]? = some (.string ⟨#[]⟩) := by
  subst hp
  obtain ⟨m, hm⟩ : ∃ m, N - p.length = m + 1 := ⟨N - p.length - 1, by omega⟩
  rw [hm, List.replicate_succ, tcells, List.map_append, List.getElem?_append_right (by simp)]
  simp
theorem fillT_set {p : List ByteArray} {j N : Nat} {x : ByteArray} (hp : p.length = j) (h : j < N) : (tcells (p ++ List.replicate (N - j) ⟨#[]⟩)).set j (.string x) = tcells ((p ++ [x]) ++ List.replicate (N - (j + 1)) ⟨#[]⟩) := by
  subst hp
  obtain ⟨m, hm⟩ : ∃ m, N - p.length = m + 1 := ⟨N - p.length - 1, by omega⟩
  rw [hm, show N - (p.length + 1) = m from by omega, List.replicate_succ]
  simp [tcells]
theorem few_snoc6 {l : List ByteArray} (h : Few60 l) {x : ByteArray} (hx : x.size ≤ 60) : Few60 (l ++ [x]) := by
  intro s hs
  rcases List.mem_append.1 hs with hs | hs
  · exact h s hs
  · rw [List.mem_singleton.1 hs]; exact hx
/-- what readEach tells -/
def EachE (w w' : World) (a0 : Option Addr) (n0 : Nat) (zs : List Int) (N : Nat) (e : Ending) : Prop :=
  (∃ (A : Option Addr) (C : Nat) (l : List ByteArray) (r : List Int) (a : Option Addr) (n c : Nat), e = .returned (.tuple #[.slice A N C, .slice a n c, .bool true]) ∧ N ≤ C ∧ Few60 l ∧ TV w' A N l ∧ zs = eachL l ++ r ∧ n ≤ c ∧ n ≤ n0 ∧ (∀ V, BV V a0 n0 zs → BV V a n r) ∧ Below w.heap.size w w') ∨
  (e = .returned (.tuple #[.slice none 0 0, .slice none 0 0, .bool false]) ∧ (∀ u, Few60 u → u.length = N → ∀ r', eachL u ++ r' ≠ zs) ∧ Below w.heap.size w w')
theorem each_bad_below {r : List Int} (h : ∀ (k : Nat) (r' : List Int), (k : Int) < 61 → r ≠ pv (k : Int) ++ r') : ∀ (k : Nat) (q r' : List Int), k ≤ 60 → q.length = k → r ≠ pv (k : Int) ++ (q ++ r') :=
  fun k q r' hk _ => h k (q ++ r') (by omega)
set_option maxHeartbeats 2000000 in
theorem treade_any (N : Nat) (hN : N ≤ 2000) (a0 : Option Addr) (n0 c0 : Nat) (zs : List Int) (w : World) (hv0 : BV w a0 n0 zs) (hc0 : n0 ≤ c0) :
    Calls Try.prog 30 #[.int .i64 (N : Int), .slice a0 n0 c0] w fun e w' => EachE w w' a0 n0 zs N e := by
  have hmk := make_texts N hN
  go_enter Try.func30, Try.ntmps30
  go_wp2_with fail
  clear hmk
  have o0 := OS.beginT (w := w) (few_max' (n := N) (by omega)) w.heap.size (Nat.le_refl _)
  have hw0 : Below w.heap.size w (w.alloc (.cells (tcells (List.replicate N ⟨#[]⟩)).toArray 9)) := Joins.below_alloc1 _ _
  go_loopw [1, 16] (fun v i wr => ∃ (j : Nat) (a : Option Addr) (n c : Nat) (p : List ByteArray) (r : List Int), j ≤ N ∧ i = .int .i64 (j : Int) ∧ v = .slice a n c ∧ n ≤ c ∧ n ≤ n0 ∧ Hid (∀ V, BV V a0 n0 zs → BV V a n r) ∧ Hid (p.length = j) ∧ Few60 p ∧ Hid (zs = eachL p ++ r) ∧ OS 1 wr w.heap.size (.slice (some ⟨w.heap.size, 0, none⟩) N N) N (tcells (p ++ List.replicate (N - j) ⟨#[]⟩)) ∧ Below w.heap.size w wr) (fun _ i _ => N - (intOf i).toNat)
  case atStart => exact ⟨0, _, _, _, [], zs, by omega, rfl, rfl, hc0, Nat.le_refl _, Lib.hid (fun V h => h), Lib.hid rfl, (fun x hx => by cases hx), Lib.hid rfl, o0, hw0⟩
  case round =>
    clear o0 hw0
    obtain ⟨j, a, n, c, p, r, hj, rfl, rfl, hc, hn0, HV, HP, hf, HZ, ho, hbel⟩ := hrel
    by_cases hlt : j < N
    · have hji : (j : Int) < (N : Int) := by omega
      have hvr := (HV.out w hv0).below hbel
      go_wp2_with fail
      refine (treadb_any 61 (by omega) (by omega) a n c r _ hvr hc).mono ?_
      rintro e w2 he
      rcases he with ⟨x, r2, a2, n2, c2, rfl, hx, hr2, hc2, hn2, hV2, hb2⟩ | ⟨rfl, hno, hb2⟩
      · replace hbel := Below.then hbel hb2
        have hvr2 := hV2 _ (hvr.below hb2)
        have HV2 := Lib.hid hV2
        have HR2 := Lib.hid hr2
        have hlr2 := Lib.hid hvr2.1
        clear hV2 hr2 hvr
        by_cases hfew : n2 < x
        · have hfi : (n2 : Int) < (x : Int) := by omega
          have HF := Lib.hid (each_few HZ.out (by rw [HP.out]; exact hlt) hf (each_bad_few (by omega) HR2.out (by rw [hlr2.out]; omega)))
          clear hvr2
          go_wp2_with fail
          go_ret3
          exact .inr ⟨rfl, HF.out, hbel⟩
        · have hfi : ¬ (n2 : Int) < (x : Int) := by omega
          replace ho := ho.below hb2
          obtain ⟨a3, hsl3, bv3⟩ := hvr2.slice_hi x c2 (by omega) hc2
          obtain ⟨a4, hsl4, -⟩ := hvr2.slice_lo x c2 (by omega) hc2
          have HV4 : Hid (∀ V, BV V a0 n0 zs → BV V a4 (n2 - x) (r2.drop x)) := Lib.hid (fun V hV => by
            obtain ⟨a5, hsl5, hb5⟩ := (HV2.out V (HV.out V hV)).slice_lo x c2 (by omega) hc2
            have e1 := (hsl4 V).symm.trans (hsl5 V)
            simp only [Result.ok.injEq, Value.slice.injEq, and_true] at e1
            rw [e1]
            exact hb5)
          have hcv := conv_any bv3 c2
          have hql : (r2.take x).length = x := by rw [List.length_take, hlr2.out]; omega
          have hqb := bv3.2.1
          have HST : Hid (eachL p ++ r = eachL (p ++ [strOfNums (r2.take x)]) ++ r2.drop x) := Lib.hid (each_step (by rw [HR2.out, List.take_append_drop]) (by rw [hql]) hqb)
          have hxs : (strOfNums (r2.take x)).size ≤ 60 := by rw [str_size, hql]; omega
          generalize strOfNums (r2.take x) = t at hcv HST hxs
          obtain ⟨g, cp, hg, -, -, -, hcell, hfree, hset⟩ := ho.own (by omega)
          cases hg
          have hcj := hcell j _ (fillT_at HP.out hlt)
          have hfj := hfree j
          have ho3 := hset j (.string t) (by omega) rfl
          rw [fillT_set HP.out hlt] at ho3
          have hw3 := hbel.setCell (p := ⟨w.heap.size, j, none⟩) (Nat.le_refl _) (.string t)
          clear hcell hfree hset ho hbel hb2 bv3 hvr2 hql hqb
          go_wp2_with fail
          go_roundw
          case rel => exact ⟨j + 1, _, _, _, p ++ [t], r2.drop x, by omega, by go_num, rfl, by omega, by omega, HV4, Lib.hid (by rw [List.length_append, HP.out, List.length_singleton]), few_snoc6 hf hxs, Lib.hid (by rw [HZ.out, HST.out]), ho3, hw3⟩
          case measure => simp [intOf]; omega
      · replace hbel := Below.then hbel hb2
        have HF := Lib.hid (each_few HZ.out (by rw [HP.out]; exact hlt) hf (each_bad_below hno))
        clear hno hvr
        go_wp2_with fail
        go_ret3
        exact .inr ⟨rfl, HF.out, hbel⟩
    · obtain rfl : j = N := by omega
      go_wp2_with fail
      go_ret3
      obtain ⟨A', C', hA, hC1, -, hv', -⟩ := ho.sv
      cases hA
      rw [Nat.sub_self, List.replicate_zero, List.append_nil] at hv'
      exact .inl ⟨_, _, p, r, a, n, c, rfl, Nat.le_refl _, hf, hv', HZ.out, hc, hn0, HV.out, hbel⟩
end Go.Proofs.Ytmoppmifhhnolaa
