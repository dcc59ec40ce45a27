/- Contracts of Fits, bothFit, Compare and Add, over this seat's translation. -/
import Derived.Test.YtllgnafbemmcaaaK2
import Derived.Test.YtllgnafbemmcaaaV3p
import Derived.Test.YtllgnafbemmcaaaV3s
import Derived.Lib.SmallJoins
import Derived.Lib.Hide
import Derived.Laws.ResultCell
namespace Go.Proofs.Ytllgnafbemmcaaa
open Go.ChangeShapes Go.WideShapes Go.ChangeAt Go.RowKit
set_option linter.unusedVariables false

/-- a value of the program's -/
abbrev VV (n : Int) (s : ByteArray) : Value := .agg #[.int .i64 n, .string s]
/-- whether a value fits -/
def fitsB (t n : Int) (s : ByteArray) : Bool := if t = 1 ∨ t = 2 then s.toList.isEmpty else if t = 3 then (decide (n = 0) && decide ((s.size : Int) ≤ 60)) else false

set_option maxHeartbeats 400000 in
theorem fits_any (t n : Int) (s : ByteArray) (w : World) :
    Calls Try.prog 27 #[.int .i64 t, VV n s] w fun e w' => e = .returned (.bool (fitsB t n s)) ∧ Below w.heap.size w w' := by
  by_cases h1 : t = 1
  · subst h1
    go_enter Try.func27, Try.ntmps27
    go_wp2
    go_ret
    exact ⟨rfl, Joins.below_alloc1 _ _⟩
  · by_cases h2 : t = 2
    · subst h2
      go_enter Try.func27, Try.ntmps27
      go_wp2
      go_ret
      exact ⟨rfl, Joins.below_alloc1 _ _⟩
    · by_cases h3 : t = 3
      · subst h3
        by_cases h4 : n = 0
        · subst h4
          go_enter Try.func27, Try.ntmps27
          go_wp2
          go_ret
          exact ⟨rfl, Joins.below_alloc1 _ _⟩
        · go_enter Try.func27, Try.ntmps27
          go_wp2
          go_ret
          exact ⟨by simp [fitsB, h4], Joins.below_alloc1 _ _⟩
      · go_enter Try.func27, Try.ntmps27
        go_wp2
        go_ret
        exact ⟨by simp [fitsB, h1, h2, h3], Joins.below_alloc1 _ _⟩

theorem after1 {w w' : World} {o : Obj} (h : Below (w.alloc o).heap.size (w.alloc o) w') : Below w.heap.size w w' := (Joins.below_alloc1 w o).trans (h.mono (by simp))
theorem after2 {w w' : World} {o o2 : Obj} (h : Below ((w.alloc o).alloc o2).heap.size ((w.alloc o).alloc o2) w') : Below w.heap.size w w' := after1 (after1 h)
theorem after3 {w w' : World} {o o2 o3 : Obj} (h : Below (((w.alloc o).alloc o2).alloc o3).heap.size (((w.alloc o).alloc o2).alloc o3) w') : Below w.heap.size w w' := after1 (after2 h)
theorem Below.then {w w' w2 : World} (h : Below w.heap.size w w') (k : Below w'.heap.size w' w2) : Below w.heap.size w w2 := h.trans (k.mono h.size)
/-- a value in a block -/
def Bx (w : World) (b : Nat) (n : Int) (s : ByteArray) : Prop := w.cell? ⟨b, 0, none⟩ = some (.int .i64 n) ∧ w.cell? ⟨b, 1, none⟩ = some (.string s)
theorem Bx.new (w : World) (n : Int) (s : ByteArray) (t : TypeId) : Bx (w.alloc (.cells #[.int .i64 n, .string s] t)) w.heap.size n s := ⟨by go_simp, by go_simp⟩
theorem Bx.lt {w : World} {b : Nat} {n : Int} {s : ByteArray} (h : Bx w b n s) : b < w.heap.size := cell_lt h.1
theorem Bx.below {w w' : World} {b : Nat} {n : Int} {s : ByteArray} (h : Bx w b n s) (hb : Below w.heap.size w w') : Bx w' b n s :=
  ⟨by rw [hb.cell (p := ⟨b, 0, none⟩) h.lt]; exact h.1, by rw [hb.cell (p := ⟨b, 1, none⟩) h.lt]; exact h.2⟩
theorem Bx.alloc {w : World} {b : Nat} {n : Int} {s : ByteArray} (h : Bx w b n s) (o : Obj) : Bx (w.alloc o) b n s := ⟨cell_alloc w o h.1, cell_alloc w o h.2⟩

theorem frz_new {w w' : World} {o : Array Value} {t : TypeId} (hb : Below (w.alloc (.cells o t)).heap.size (w.alloc (.cells o t)) w') :
    w'.frozen? ⟨w.heap.size, 0, none⟩ = false ∧ w'.frozen? ⟨w.heap.size, 1, none⟩ = false :=
  ⟨by rw [hb.frozen (p := ⟨w.heap.size, 0, none⟩) (by simp)]; exact World.frozen?_alloc_new _ _ _ _, by rw [hb.frozen (p := ⟨w.heap.size, 1, none⟩) (by simp)]; exact World.frozen?_alloc_new _ _ _ _⟩

theorem Bx.put {w : World} {b : Nat} {n : Int} {s : ByteArray} (h : Bx w b n s) (m : Int) (r : ByteArray) : Bx ((w.setCell ⟨b, 0, none⟩ (.int .i64 m)).setCell ⟨b, 1, none⟩ (.string r)) b m r :=
  ⟨by rw [World.cell?_setCell_other _ _ _ _ (by simp)]; exact World.cell?_setCell_same _ _ _ h.1,
   World.cell?_setCell_same _ _ _ (by rw [World.cell?_setCell_other _ _ _ _ (by simp)]; exact h.2)⟩
theorem ld_vv {w : World} (b : Nat) {n : Int} {s : ByteArray} (hc : Bx w b n s) : (loadVar 50 ⟨b, 0, none⟩).run Try.prog w = .ok (VV n s) w := by
  obtain ⟨h0, h1⟩ := hc
  go_simp
theorem res_vv {fn : Func} {p : Tmp} (h : fn.results = #[.cell p 50]) (tmps : Array Value) {w : World} (b : Nat) {n : Int} {s : ByteArray} (hp : tmps.getD p undef = .pointer (some ⟨b, 0, none⟩)) (hc : Bx w b n s) :
    (results fn tmps).run Try.prog w = .ok (VV n s) w := by
  have hp' : tmps[p]?.getD undef = .pointer (some ⟨b, 0, none⟩) := by simpa using hp
  simp [results, h, hp', asAddr, ld_vv b hc]
theorem res_vv2 {fn : Func} {p u : Tmp} (h : fn.results = #[.cell p 50, .tmp u]) (tmps : Array Value) {w : World} (b : Nat) {n : Int} {s : ByteArray} (hp : tmps.getD p undef = .pointer (some ⟨b, 0, none⟩)) (hc : Bx w b n s) :
    (results fn tmps).run Try.prog w = .ok (.tuple #[VV n s, tmps.getD u undef]) w := by
  rw [results_cell_tmp h, hp]
  simp [Result.andThen, asAddr, ld_vv b hc]

set_option maxHeartbeats 400000 in
theorem both_any (t n m : Int) (s r : ByteArray) (w : World) :
    Calls Try.prog 41 #[.int .i64 t, VV n s, VV m r] w fun e w' => e = .returned (.bool (fitsB t n s && fitsB t m r)) ∧ Below w.heap.size w w' := by
  cases hf : fitsB t n s
  · go_enter Try.func41, Try.ntmps41
    go_wp2_with (go_at_call 27; refine (fits_any t n s _).mono ?_; rw [hf]; rintro e w' ⟨rfl, hb⟩)
    go_ret
    exact ⟨rfl, after2 hb⟩
  · go_enter Try.func41, Try.ntmps41
    go_wp2_with fail
    refine (fits_any t n s _).mono ?_; rw [hf]; rintro e w' ⟨rfl, hb⟩
    have h2 := (Bx.new (w.alloc (.cells #[.int .i64 n, .string s] 50)) m r 50).below hb
    rw [show (w.alloc (.cells #[.int .i64 n, .string s] 50)).heap.size = w.heap.size + 1 by simp] at h2
    obtain ⟨c0, c1⟩ := h2
    go_wp2_with fail
    refine (fits_any t m r _).mono ?_; rintro e w2 ⟨rfl, hb2⟩
    go_wp2
    go_ret
    exact ⟨by simp, Below.then (after2 hb) hb2⟩
set_option maxHeartbeats 400000 in
theorem cmpi_any (n m : Int) (w : World) :
    Calls Try.prog 42 #[.int .i64 n, .int .i64 m] w fun e w' => e = .returned (.int .i64 (cmpI n m)) ∧ w' = w := by
  go_enter Try.func42, Try.ntmps42
  go_wp2
  all_goals (go_ret; refine ⟨ret_int ?_, rfl⟩; unfold cmpI; (repeat' split) <;> omega)
set_option maxHeartbeats 400000 in
theorem cmpu_any (n m : Int) (w : World) :
    Calls Try.prog 43 #[.int .u64 n, .int .u64 m] w fun e w' => e = .returned (.int .i64 (cmpI n m)) ∧ w' = w := by
  go_enter Try.func43, Try.ntmps43
  go_wp2
  all_goals (go_ret; refine ⟨ret_int ?_, rfl⟩; unfold cmpI; (repeat' split) <;> omega)
/-- the order of two values -/
def cmpV (t n : Int) (s : ByteArray) (m : Int) (r : ByteArray) : Int :=
  if (fitsB t n s && fitsB t m r) = true then (if t = 1 then cmpI n m else if t = 2 then cmpI (IntKind.u64.wrap n) (IntKind.u64.wrap m) else Lib.compareBytes s.data.toList r.data.toList) else 0
theorem cmpV_not {t n m : Int} {s r : ByteArray} (h : (fitsB t n s && fitsB t m r) = false) : cmpV t n s m r = 0 := by unfold cmpV; rw [if_neg (by rw [h]; simp)]
theorem cmpV_is {t n m : Int} {s r : ByteArray} (h : (fitsB t n s && fitsB t m r) = true) : cmpV t n s m r = (if t = 1 then cmpI n m else if t = 2 then cmpI (IntKind.u64.wrap n) (IntKind.u64.wrap m) else Lib.compareBytes s.data.toList r.data.toList) := by unfold cmpV; rw [if_pos h]
set_option maxHeartbeats 400000 in
theorem compare_any (t n m : Int) (s r : ByteArray) (w : World) :
    Calls Try.prog 39 #[.int .i64 t, VV n s, VV m r] w fun e w' => e = .returned (.int .i64 (cmpV t n s m r)) ∧ Below w.heap.size w w' := by
  go_enter Try.func39, Try.ntmps39
  go_wp2_with fail
  refine (both_any t n m s r _).mono ?_
  rintro e w' ⟨rfl, hb⟩
  have h2 := (Bx.new (w.alloc (.cells #[.int .i64 n, .string s] 50)) m r 50).below hb
  have h1 := ((Bx.new w n s 50).alloc (.cells #[.int .i64 m, .string r] 50)).below hb
  rw [show (w.alloc (.cells #[.int .i64 n, .string s] 50)).heap.size = w.heap.size + 1 by simp] at h2
  obtain ⟨c0, c1⟩ := h1
  obtain ⟨d0, d1⟩ := h2
  have hb' := after2 hb
  clear hb
  cases hf : (fitsB t n s && fitsB t m r)
  · have hn := Lib.hid (cmpV_not hf)
    clear hf
    go_wp2_with fail
    go_ret
    exact ⟨ret_int hn.out.symm, hb'⟩
  · have hn := Lib.hid (cmpV_is hf)
    clear hf
    by_cases h1 : t = 1
    · subst h1
      go_wp2_with (go_at_call 42; refine (cmpi_any n m _).mono ?_; rintro e w' ⟨rfl, rfl⟩)
      go_ret
      exact ⟨ret_int (by rw [hn.out]; simp), hb'⟩
    · by_cases h2 : t = 2
      · subst h2
        go_wp2_with (go_at_call 43; refine (cmpu_any _ _ _).mono ?_; rintro e w' ⟨rfl, rfl⟩)
        go_ret
        exact ⟨ret_int (by rw [hn.out]; simp), hb'⟩
      · go_wp2_with (go_at_call 44; refine (Go.Proofs.Try.strings_Compare s r _).mono ?_; rintro e w' ⟨rfl, rfl⟩)
        go_ret
        exact ⟨ret_int (by rw [hn.out]; simp [h1, h2]), hb'⟩
/-- the sum of two values -/
def addN (t n : Int) (s : ByteArray) (m : Int) (r : ByteArray) : Int := if (fitsB t n s && fitsB t m r) = true then (if t = 3 then m else wrap64 (n + m)) else 0
def addS (t n : Int) (s : ByteArray) (m : Int) (r : ByteArray) : ByteArray := if (fitsB t n s && fitsB t m r) = true then (if t = 3 then r else ⟨#[]⟩) else ⟨#[]⟩
theorem ret_vv {n n' : Int} {s s' : ByteArray} (h1 : n = n') (h2 : s = s') : Ending.returned (.agg #[.int .i64 n, .string s]) = .returned (VV n' s') := by rw [h1, h2]
end Go.Proofs.Ytllgnafbemmcaaa
