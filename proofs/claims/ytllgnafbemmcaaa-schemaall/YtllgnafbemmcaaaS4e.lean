/- The statements' own helper shown. -/
import Derived.Test.YtllgnafbemmcaaaS4d
namespace Go.Proofs.Ytllgnafbemmcaaa
open Go.ChangeShapes Go.WideShapes Go.ChangeAt Go.RowKit
set_option linter.unusedVariables false

theorem SV.lit {k : Nat} (w : World) (cs : List Value) (n : Nat) (T : TypeId) (h1 : cs.length = n * k) (h2 : ∀ u ∈ cs, u.oneCell' = true) : SV k (w.alloc (.cells cs.toArray T)) (some ⟨w.heap.size, 0, none⟩) n cs :=
  ⟨h1, h2, .inr ⟨_, 0, rfl, fun i u hi => by rw [Nat.zero_add, World.cell?_alloc_new]; simpa using hi⟩⟩
theorem put_bytes {ts : List Int} {k m g : Int} (h : checkB ts k m g = true) : ∀ z ∈ putS ts k m g, 0 ≤ z ∧ z ≤ 255 := by
  have hu := schemaN_u64 h
  unfold putS
  generalize schemaN ts k m g = l at hu
  induction l with
  | nil => intro z hz; cases hz
  | cons x l ih =>
    intro z hz
    rw [joinN] at hz
    rcases List.mem_append.1 hz with hz | hz
    · exact pv_bytes (hu x (List.mem_cons_self ..)).1 z hz
    · exact ih (fun y hy => hu y (List.mem_cons_of_mem _ hy)) z hz
theorem shown_put : putS [1, 3] 1 1 4 = [2, 1, 3, 1, 1, 4] := by
  simp only [putS, schemaN, joinN, List.cons_append, List.nil_append, List.length_cons, List.length_nil]
  rw [pv_small (by omega), pv_small (by omega), pv_small (by omega), pv_small (by omega)]
  rfl
theorem shown_ok : checkB [1, 3] 1 1 4 = true := by decide
theorem shown_str : strOfNums [2, 1, 3, 1, 1, 4] = { data := #[2, 1, 3, 1, 1, 4] } := by rfl
set_option maxHeartbeats 1000000 in
theorem shown4_is (w : World) : Calls Try.prog 9 #[] w fun e w' => e = .returned (.bool true) ∧ Below w.heap.size w w' := by
  have hv : IV ((w.alloc (.cells #[.int .i64 1, .int .i64 3] 3)).alloc (.cells #[.slice (some ⟨w.heap.size, 0, none⟩) 2 2, .int .i64 1, .int .i64 1, .int .i64 4] 24)) (some ⟨w.heap.size, 0, none⟩) 2 [1, 3] := (SV.lit (k := 1) w (icells [1, 3]) 2 3 rfl (icells_one _)).alloc _
  have hx := Sx.new (w.alloc (.cells #[.int .i64 1, .int .i64 3] 3)) (some ⟨w.heap.size, 0, none⟩) 2 2 1 1 4 24
  rw [heap_alloc] at hx
  go_enter Try.func9, Try.ntmps9
  go_wp2_with fail
  refine (put_any _ 2 2 [1, 3] 1 1 4 _ hv shown_ok).mono ?_
  rintro e w1 ⟨v, rfl, ho, hb⟩
  have hv1 := hv.below hb
  obtain ⟨c0, c1, c2, c3⟩ := hx.below hb
  have hw1 := after2 hb
  clear hv hx hb
  rw [shown_put] at ho
  obtain ⟨a, c, rfl, -, -, hbv, -⟩ := ho.bvn (by rw [← shown_put]; exact put_bytes shown_ok) 6 rfl
  have hcv := conv_any hbv c
  rw [shown_str] at hcv
  clear ho hbv
  go_wp2_with fail
  refine (check_any _ 2 2 [1, 3] 1 1 4 _ hv1 (by decide)).mono ?_
  rw [show chkE [1, 3] 1 1 4 = 0 from by rw [chkE, shown_ok]; rfl]
  rintro e w2 ⟨rfl, hb2⟩
  go_wp2_with fail
  go_ret
  exact ⟨rfl, Below.then hw1 hb2⟩
end Go.Proofs.Ytllgnafbemmcaaa
