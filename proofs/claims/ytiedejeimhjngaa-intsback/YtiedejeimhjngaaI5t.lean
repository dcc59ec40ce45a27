/- Contracts of package ints: readFixed, readDelta, read, Take. -/
import Derived.Test.YtiedejeimhjngaaI5q
import Derived.Test.YtiedejeimhjngaaR2
namespace Go.Proofs.Ytiedejeimhjngaa
open Go.ChangeShapes Go.WideShapes Go.ChangeAt Go.RowKit
set_option linter.unusedVariables false

theorem zag_any (a : Int) (w : World) (h : 0 ≤ a ∧ a ≤ 18446744073709551615) :
    Calls Try.prog 35 #[.int .u64 a] w fun e w' => e = .returned (.int .i64 (zagF a)) ∧ w' = w := by
  unfold zagF
  by_cases h0 : a % 2 = 1
  · rw [if_pos h0]; exact zag_odd a w h.1 h.2 h0
  · rw [if_neg h0]; exact zag_even a w h.1 h.2 (by omega)
theorem make_i64s (N : Nat) (h : N ≤ 2000) (w : World) : (Instr.makeSlice 22 (.int .i64 (N : Int)) (.int .i64 (N : Int))).run Try.prog w = .ok (.slice (some ⟨w.heap.size, 0, none⟩) N N) (w.alloc (.cells (icells (List.replicate N 0)).toArray 2)) := by
  have := run_make_row' (P := Try.prog) 22 2 (.int .i64 0) 8 Try.underlying22 (by kernel_rfl) rfl .i64 .i64 N (by omega) (by omega) w
  rw [madeCells_int] at this
  exact this
/-- what readFixed and readDelta tell -/
def ReadE (w w' : World) (N : Nat) (G : List Int → Prop) (e : Ending) : Prop :=
  (∃ (A : Option Addr) (C : Nat) (l : List Int), e = .returned (.tuple #[.slice A N C, .bool true]) ∧ N ≤ C ∧ I64s l ∧ IV w' A N l ∧ (∀ k, I64s k → k.length = N → G k → k = l) ∧ Below w.heap.size w w') ∨
  (e = .returned (.tuple #[.slice none 0 0, .bool false]) ∧ (∀ k, I64s k → k.length = N → ¬ G k) ∧ Below w.heap.size w w')
theorem i64_snoc {p : List Int} (h : I64s p) (x : Int) : I64s (p ++ [rd x]) := by
  intro y hy
  rcases List.mem_append.1 hy with hy | hy
  · exact h y hy
  · rw [List.mem_singleton.1 hy]; exact rd_bd x
theorem OS.begin {w : World} {N : Nat} (h : N ≤ maxLen) : OS 1 (w.alloc (.cells (icells (List.replicate N 0)).toArray 2)) w.heap.size (.slice (some ⟨w.heap.size, 0, none⟩) N N) N (icells ([] ++ List.replicate (N - 0) 0)) := by
  rw [List.nil_append, Nat.sub_zero]
  exact OS.lit (k := 1) w w.heap.size (Nat.le_refl _) _ N 2 (by simp [icells]) (icells_one _) h _ rfl
theorem fill_at {p : List Int} {j N : Nat} (hp : p.length = j) (h : j < N) : (icells (p ++ List.replicate (N - j) 0))[j]? = some (.int .i64 0) := by
  subst hp
  obtain ⟨m, hm⟩ : ∃ m, N - p.length = m + 1 := ⟨N - p.length - 1, by omega⟩
  rw [hm, List.replicate_succ, icells, List.map_append, List.getElem?_append_right (by simp)]
  simp
theorem fill_set {p : List Int} {j N : Nat} {x : Int} (hp : p.length = j) (h : j < N) : (icells (p ++ List.replicate (N - j) 0)).set j (.int .i64 x) = icells ((p ++ [x]) ++ List.replicate (N - (j + 1)) 0) := by
  subst hp; exact set_fill p N x h
set_option maxHeartbeats 2000000 in
theorem readf_any (N : Nat) (hN : N ≤ 2000) (a0 : Option Addr) (n0 c0 : Nat) (zs : List Int) (w : World) (hv0 : BV w a0 n0 zs) (hc0 : n0 ≤ c0) :
    Calls Try.prog 32 #[.int .i64 (N : Int), .slice a0 n0 c0] w fun e w' => ReadE w w' N (fun k => fixedL k = zs) e := by
  have hmk := make_i64s N hN
  go_enter Try.func32, Try.ntmps32
  go_wp2_with fail
  clear hmk
  have o0 := OS.begin (w := w) (few_max' (n := N) (by omega))
  have hw0 : Below w.heap.size w (w.alloc (.cells (icells (List.replicate N 0)).toArray 2)) := Joins.below_alloc1 _ _
  go_loopw [1, 13] (fun v i wr => ∃ (j : Nat) (a : Option Addr) (n c : Nat) (p r : List Int), j ≤ N ∧ i = .int .i64 (j : Int) ∧ v = .slice a n c ∧ n ≤ c ∧ BV w a n r ∧ Hid (p.length = j) ∧ I64s p ∧ Hid (zs = fixedL p ++ r) ∧ OS 1 wr w.heap.size (.slice (some ⟨w.heap.size, 0, none⟩) N N) N (icells (p ++ List.replicate (N - j) 0)) ∧ Below w.heap.size w wr) (fun _ i _ => N - (intOf i).toNat)
  case atStart => exact ⟨0, _, _, _, [], zs, by omega, rfl, rfl, hc0, hv0, Lib.hid rfl, (fun x hx => by cases hx), Lib.hid rfl, o0, hw0⟩
  case round =>
    clear o0 hw0
    obtain ⟨j, a, n, c, p, r, hj, rfl, rfl, hc, hv, HP, hi, HZ, ho, hbel⟩ := hrel
    have hsz := hbel.size
    have hby : Byts r := hv.2.1
    have hlr := Lib.hid hv.1
    by_cases hlt : j < N
    · by_cases hn : n < 8
      · have hvr := hv.below hbel
        go_wp2_with fail
        refine (get64_few a n c r _ hvr hn).mono ?_
        rintro e w2 ⟨rfl, hb2⟩
        go_wp2_with fail
        go_ret2
        exact .inr ⟨rfl, fixed_few HZ.out (by rw [HP.out]; exact hlt) (by rw [hlr.out]; exact hn), hbel.trans (hb2.mono hsz)⟩
      · have hvr := hv.below hbel
        have hn8 : 8 ≤ r.length := by rw [hlr.out]; omega
        obtain ⟨b, off, rfl, -⟩ := hv.opened (by omega)
        have hcut := hv.cut 8 c (by omega) hc
        obtain ⟨x, hx⟩ : ∃ x, acc8 r 8 = x := ⟨_, rfl⟩
        have HX := Lib.hid hx
        have hwr := wrap_rd x
        obtain ⟨z, hz⟩ : ∃ z, rd x = z := ⟨_, rfl⟩
        rw [hz] at hwr
        have HR := Lib.hid hz
        go_wp2_with fail
        refine (get64_many _ n c r _ hvr (by omega)).mono ?_
        rintro e w2 ⟨rfl, hb2⟩
        rw [hx]
        clear hx hz
        replace ho := ho.below hb2
        have hw2 := hbel.trans (hb2.mono hsz)
        clear hb2 hbel hvr
        obtain ⟨g, cp, hg, -, -, -, hcell, hfree, hset⟩ := ho.own (by omega)
        cases hg
        have hcj := hcell j _ (fill_at HP.out hlt)
        have hfj := hfree j
        have ho3 := hset j (.int .i64 z) (by omega) rfl
        rw [fill_set HP.out hlt] at ho3
        have hw3 := hw2.setCell (p := ⟨w.heap.size, j, none⟩) (Nat.le_refl _) (.int .i64 z)
        have hji : (j : Int) < (N : Int) := by omega
        have h8n : (8 : Int) ≤ (n : Int) := by omega
        clear hcell hfree hset ho hw2
        by_cases hc8 : c = 8
        · rw [if_pos hc8, show n - 8 = 0 by omega] at hcut
          subst hc8
          go_wp2_with fail
          go_roundw
          case rel => exact ⟨j + 1, _, _, _, p ++ [z], r.drop 8, by omega, by go_num, rfl, by omega, hcut, Lib.hid (by rw [List.length_append, HP.out, List.length_singleton]), (by rw [← HR.out]; exact i64_snoc hi x), Lib.hid (by rw [HZ.out, ← HR.out]; exact fixed_step hby hn8 HX.out), ho3, hw3⟩
          case measure => simp [intOf]; omega
        · rw [if_neg hc8] at hcut
          have hc8' : 8 ≤ c := by omega
          go_wp2_with fail
          go_roundw
          case rel => exact ⟨j + 1, _, _, _, p ++ [z], r.drop 8, by omega, by go_num, rfl, by omega, hcut, Lib.hid (by rw [List.length_append, HP.out, List.length_singleton]), (by rw [← HR.out]; exact i64_snoc hi x), Lib.hid (by rw [HZ.out, ← HR.out]; exact fixed_step hby hn8 HX.out), ho3, hw3⟩
          case measure => simp [intOf]; omega
    · obtain rfl : j = N := by omega
      go_wp2_with fail
      go_ret2
      obtain ⟨A', C', hA, hC1, -, hv', -⟩ := ho.sv
      cases hA
      rw [Nat.sub_self, List.replicate_zero, List.append_nil] at hv'
      exact .inl ⟨_, _, p, rfl, Nat.le_refl _, hi, hv', fixed_one HZ.out HP.out hi, hbel⟩
set_option maxHeartbeats 2000000 in
theorem readd_any (N : Nat) (hN : N ≤ 2000) (a0 : Option Addr) (n0 c0 : Nat) (zs : List Int) (w : World) (hv0 : BV w a0 n0 zs) (hc0 : n0 ≤ c0) :
    Calls Try.prog 33 #[.int .i64 (N : Int), .slice a0 n0 c0] w fun e w' => ReadE w w' N (fun k => deltaL 0 k = zs) e := by
  have hmk := make_i64s N hN
  go_enter Try.func33, Try.ntmps33
  go_wp2_with fail
  clear hmk
  have o0 := OS.begin (w := w) (few_max' (n := N) (by omega))
  have hw0 : Below w.heap.size w (w.alloc (.cells (icells (List.replicate N 0)).toArray 2)) := Joins.below_alloc1 _ _
  go_loopw [1, 7, 14] (fun v q i wr => ∃ (j : Nat) (a : Option Addr) (n c : Nat) (was : Int) (p r : List Int), j ≤ N ∧ i = .int .i64 (j : Int) ∧ v = .slice a n c ∧ q = .int .i64 was ∧ n ≤ c ∧ BV w a n r ∧ Hid (was = p.getLastD 0) ∧ Hid (p.length = j) ∧ I64s p ∧ Hid (zs = deltaL 0 p ++ r) ∧ OS 1 wr w.heap.size (.slice (some ⟨w.heap.size, 0, none⟩) N N) N (icells (p ++ List.replicate (N - j) 0)) ∧ Below w.heap.size w wr) (fun _ _ i _ => N - (intOf i).toNat)
  case atStart => exact ⟨0, _, _, _, 0, [], zs, by omega, rfl, rfl, rfl, hc0, hv0, Lib.hid rfl, Lib.hid rfl, (fun x hx => by cases hx), Lib.hid rfl, o0, hw0⟩
  case round =>
    clear o0 hw0
    obtain ⟨j, a, n, c, was, p, r, hj, rfl, rfl, rfl, hc, hv, HW, HP, hi, HZ, ho, hbel⟩ := hrel
    have hsz := hbel.size
    have hby : Byts r := hv.2.1
    have hlr := Lib.hid hv.1
    by_cases hlt : j < N
    · have hvr := hv.below hbel
      by_cases hs0 : (varR r).2 = 0
      · have hno := varR_none hs0
        have hji : (j : Int) < (N : Int) := by omega
        go_wp2_with fail
        refine (var_any a n c r _ hvr).mono ?_
        rw [hno]
        rintro e w' ⟨rfl, rfl⟩
        have HF := Lib.hid (delta_few HZ.out (by rw [HP.out]; exact hlt) hs0)
        clear hno hs0
        go_wp2_with fail
        go_ret2
        exact .inr ⟨rfl, HF.out, hbel⟩
      · obtain ⟨y, r', hrr, hy0, hy1, hvar⟩ := varR_back r hby hs0
        have hy : 0 ≤ y ∧ y ≤ 18446744073709551615 := ⟨hy0, hy1⟩
        have hpos := pv_pos y
        have hl10 := pv_len10 (x := y) (by omega)
        obtain ⟨s, hs⟩ : ∃ s, (pv y).length = s := ⟨_, rfl⟩
        rw [hs] at hvar hpos hl10
        have hsn : s ≤ n := by
          have := congrArg List.length hrr
          rw [List.length_append, hlr.out, hs] at this; omega
        obtain ⟨b, off, rfl, -⟩ := hv.opened (by omega)
        have hcut := hv.cut s c hsn hc
        have e1 : r.drop s = r' := by rw [hrr, ← hs]; exact List.drop_left' rfl
        rw [e1] at hcut
        have HRR := Lib.hid hrr
        have hji : (j : Int) < (N : Int) := by omega
        have hs1 : ¬ (s : Int) = 0 := by omega
        have hs2 : (s : Int) ≤ (n : Int) := by omega
        go_wp2_with fail
        refine (var_any _ n c r _ hvr).mono ?_
        rw [hvar]
        rintro e w' ⟨rfl, rfl⟩
        clear hs0 hrr hvar hs e1 hvr
        go_wp2_with fail
        refine (zag_any y _ hy).mono ?_
        rintro e w' ⟨rfl, rfl⟩
        have hwr := wrap_rd (was + zagF y)
        obtain ⟨z, hz⟩ : ∃ z, rd (was + zagF y) = z := ⟨_, rfl⟩
        rw [hz] at hwr
        have HR := Lib.hid hz
        clear hz
        obtain ⟨g, cp, hg, -, -, -, hcell, hfree, hset⟩ := ho.own (by omega)
        cases hg
        have hcj := hcell j _ (fill_at HP.out hlt)
        have hfj := hfree j
        have ho3 := hset j (.int .i64 z) (by omega) rfl
        rw [fill_set HP.out hlt] at ho3
        have hw3 := hbel.setCell (p := ⟨w.heap.size, j, none⟩) (Nat.le_refl _) (.int .i64 z)
        clear hcell hfree hset ho hbel
        by_cases hcs : c = s
        · rw [if_pos hcs, show n - s = 0 by omega] at hcut
          subst hcs
          go_wp2_with fail
          go_roundw
          case rel => exact ⟨j + 1, _, _, _, z, p ++ [z], r', by omega, by go_num, rfl, rfl, by omega, hcut, Lib.hid (by rw [getLast_snoc]), Lib.hid (by rw [List.length_append, HP.out, List.length_singleton]), (by rw [← HR.out]; exact i64_snoc hi _), Lib.hid (by rw [HZ.out, ← HR.out]; exact delta_step hy HW.out HRR.out), ho3, hw3⟩
          case measure => simp [intOf]; omega
        · rw [if_neg hcs] at hcut
          have hcs' : s ≤ c := by omega
          go_wp2_with fail
          go_roundw
          case rel => exact ⟨j + 1, _, _, _, z, p ++ [z], r', by omega, by go_num, rfl, rfl, by omega, hcut, Lib.hid (by rw [getLast_snoc]), Lib.hid (by rw [List.length_append, HP.out, List.length_singleton]), (by rw [← HR.out]; exact i64_snoc hi _), Lib.hid (by rw [HZ.out, ← HR.out]; exact delta_step hy HW.out HRR.out), ho3, hw3⟩
          case measure => simp [intOf]; omega
    · obtain rfl : j = N := by omega
      go_wp2_with fail
      go_ret2
      obtain ⟨A', C', hA, hC1, -, hv', -⟩ := ho.sv
      cases hA
      rw [Nat.sub_self, List.replicate_zero, List.append_nil] at hv'
      exact .inl ⟨_, _, p, rfl, Nat.le_refl _, hi, hv', delta_one HZ.out HP.out hi, hbel⟩
end Go.Proofs.Ytiedejeimhjngaa
