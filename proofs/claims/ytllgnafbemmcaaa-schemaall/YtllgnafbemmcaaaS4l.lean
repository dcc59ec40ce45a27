/- Contract of schema.Batch. -/
import Derived.Test.YtllgnafbemmcaaaS4i
import Derived.Test.YtllgnafbemmcaaaS4q
import Derived.Test.YtllgnafbemmcaaaG5
namespace Go.Proofs.Ytllgnafbemmcaaa
open Go.ChangeShapes Go.WideShapes Go.ChangeAt Go.RowKit
set_option linter.unusedVariables false

/-- a row of a slice of rows -/
theorem RVs.at {w : World} {a : Option Addr} {n : Nat} {vss : List (List (Int × ByteArray))} (h : RVs w a n vss) (i : Nat) (hi : i < n) :
    ∃ b off A L C, a = some ⟨b, off, none⟩ ∧ w.cell? ⟨b, off + i, none⟩ = some (.slice A L C) ∧ L ≤ maxLen ∧ WV w A L (vss.getD i []) := by
  obtain ⟨h1, h2⟩ := h
  rcases h2 with h2 | ⟨b, off, rfl, hr⟩
  · omega
  · obtain ⟨v, e1, A, L, C, rfl, q1, q2, q3, q4, q5⟩ := hr i hi
    exact ⟨b, off, A, L, C, rfl, e1, by omega, q4⟩
theorem RowAt.of {w : World} {A : Option Addr} {L C : Nat} {vs : List (Int × ByteArray)} (h : WV w A L vs) (hL : 1 ≤ L) (h1 : L ≤ C) (h2 : C ≤ maxLen) : RowAt w (.slice A L C) vs :=
  ⟨A, L, C, rfl, h1, h2, WV.len h, h, fun hA => by
    rcases h.2.2 with h0 | ⟨b, off, hs, _⟩
    · omega
    · rw [hA] at hs; cases hs⟩
theorem RVs.two {w : World} {v1 v2 : Value} {r1 r2 : List (Int × ByteArray)} {T : TypeId} (h1 : RowAt w v1 r1) (h2 : RowAt w v2 r2) : RVs (w.alloc (.cells #[v1, v2] T)) (some ⟨w.heap.size, 0, none⟩) 2 [r1, r2] := by
  have k1 := h1.mono (w' := w.alloc (.cells #[v1, v2] T)) fun _ _ _ hc => cell_alloc w _ hc
  have k2 := h2.mono (w' := w.alloc (.cells #[v1, v2] T)) fun _ _ _ hc => cell_alloc w _ hc
  refine ⟨rfl, .inr ⟨_, 0, rfl, fun i hi => ?_⟩⟩
  match i, hi with
  | 0, _ => exact ⟨v1, by rw [World.cell?_alloc_new]; rfl, k1⟩
  | 1, _ => exact ⟨v2, by rw [World.cell?_alloc_new]; rfl, k2⟩
theorem RVs.one {w : World} {v1 : Value} {r1 : List (Int × ByteArray)} {T : TypeId} (h1 : RowAt w v1 r1) : RVs (w.alloc (.cells #[v1] T)) (some ⟨w.heap.size, 0, none⟩) 1 [r1] := by
  have k1 := h1.mono (w' := w.alloc (.cells #[v1] T)) fun _ _ _ hc => cell_alloc w _ hc
  refine ⟨rfl, .inr ⟨_, 0, rfl, fun i hi => ?_⟩⟩
  match i, hi with
  | 0, _ => exact ⟨v1, by rw [World.cell?_alloc_new]; rfl, k1⟩
/-- what Batch tells -/
def batE (ts : List Int) (vss : List (List (Int × ByteArray))) : Int := if upB 64 vss.length = true then (if vss.all (rowB ts) = true then 0 else 21) else 22
theorem bat_size {ts : List Int} {vss : List (List (Int × ByteArray))} (h : upB 64 vss.length = false) : batE ts vss = 22 := by rw [batE, if_neg (by rw [h]; simp)]
theorem bat_row {ts : List Int} {vss : List (List (Int × ByteArray))} {i : Nat} (h : upB 64 vss.length = true) (hi : i < vss.length) (hr : rowB ts (vss.getD i []) = false) : batE ts vss = 21 := by
  rw [batE, if_pos h, if_neg]
  intro ha
  have := List.all_eq_true.1 ha (vss[i]) (List.getElem_mem hi)
  rw [List.getD_eq_getElem?_getD, List.getElem?_eq_getElem hi, Option.getD_some, this] at hr
  cases hr
theorem bat_ok {ts : List Int} {vss : List (List (Int × ByteArray))} (h : upB 64 vss.length = true) (hr : ∀ i, i < vss.length → rowB ts (vss.getD i []) = true) : batE ts vss = 0 := by
  rw [batE, if_pos h, if_pos]
  refine List.all_eq_true.2 fun x hx => ?_
  obtain ⟨i, hi, rfl⟩ := List.mem_iff_getElem.1 hx
  have := hr i hi
  rwa [List.getD_eq_getElem?_getD, List.getElem?_eq_getElem hi, Option.getD_some] at this
set_option maxHeartbeats 1000000 in
theorem batch_any (A : Option Addr) (N C : Nat) (ts : List Int) (k m g : Int) (R : Option Addr) (n c : Nat) (vss : List (List (Int × ByteArray))) (w : World) (hv : IV w A N ts) (hN : N ≤ maxLen) (hr : RVs w R n vss) (hn : n ≤ maxLen) :
    Calls Try.prog 19 #[SS A N C k m g, .slice R n c] w fun e w' => e = .returned (.int .i64 (batE ts vss)) ∧ Below w.heap.size w w' := by
  have hn' := hn
  unfold maxLen at hn'
  have hl := Lib.hid hr.1
  go_enter Try.func19, Try.ntmps19
  go_wp2_with fail
  refine (upto_any 64 n _).mono ?_
  rintro e w' ⟨rfl, rfl⟩
  cases h1 : upB 64 (n : Int)
  · have no := Lib.hid (bat_size (ts := ts) (vss := vss) (by rw [hl.out]; exact h1))
    go_wp2_with fail
    go_ret
    exact ⟨ret_int no.out.symm, Joins.below_alloc1 _ _⟩
  · have HU := Lib.hid (show upB 64 (vss.length : Int) = true by rw [hl.out]; exact h1)
    clear h1
    have hx0 := Sx.new w A N C k m g 24
    go_wp2_with fail
    go_loopw [13] (fun i wr => ∃ j : Nat, j ≤ n ∧ i = .int .i64 (j : Int) ∧ Hid (∀ i, i < j → rowB ts (vss.getD i []) = true) ∧ Below (w.alloc (.cells #[.slice A N C, .int .i64 k, .int .i64 m, .int .i64 g] 24)).heap.size (w.alloc (.cells #[.slice A N C, .int .i64 k, .int .i64 m, .int .i64 g] 24)) wr) (fun i _ => n - (intOf i).toNat)
    case atStart => exact ⟨0, by omega, rfl, Lib.hid (fun i hi => by omega), Below.refl _ _⟩
    case round =>
      obtain ⟨j, hj, rfl, HT, hbel⟩ := hrel
      have hx := hx0.below hbel
      have hbw := after1 hbel
      clear hx0
      by_cases hlt : j < n
      · obtain ⟨b, off, A1, L1, C1, rfl, hc, hL1, hw1⟩ := hr.at j hlt
        have hc := keepc hc hbw
        have hw1 := hw1.below hbw
        have hv1 := hv.below hbw
        obtain ⟨c0, c1, c2, c3⟩ := id hx
        go_wp2_with fail
        refine (row_any A N C ts k m g A1 L1 C1 (vss.getD j []) _ hv1 hN hw1 hL1).mono ?_
        rintro e w1 ⟨rfl, hb1⟩
        have hb' := Below.then hbel hb1
        clear hb1 hc hw1 hv1 c0 c1 c2 c3 hbel hbw hx
        cases h5 : rowB ts (vss.getD j [])
        · have no := Lib.hid (bat_row (ts := ts) (vss := vss) (i := j) HU.out (by rw [hl.out]; exact hlt) h5)
          clear h5
          go_wp2_with fail
          go_ret
          exact ⟨ret_int no.out.symm, after1 hb'⟩
        · have HT' : Hid (∀ i, i < j + 1 → rowB ts (vss.getD i []) = true) := Lib.hid (fun i hi => by
            by_cases hij : i < j
            · exact HT.out i hij
            · obtain rfl : i = j := by omega
              exact h5)
          clear h5
          go_wp2_with fail
          go_roundw
          case rel => exact ⟨j + 1, by omega, by go_num, HT', hb'⟩
          case measure => simp [intOf]; omega
      · obtain rfl : j = n := by omega
        have ok := Lib.hid (bat_ok (ts := ts) (vss := vss) HU.out (fun i hi => HT.out i (by rw [← hl.out]; exact hi)))
        go_wp2_with fail
        go_ret
        exact ⟨ret_int ok.out.symm, hbw⟩
end Go.Proofs.Ytllgnafbemmcaaa
