/- Texts that belong together, one behind the other: Fx, Wx. -/
import Derived.Test.YtbfihajgjbpmaaaGreatBase
import Derived.Lib.SmallJoins
import Derived.Lib.Hide
import Derived.Laws.ResultCell
/- Values: in memory, and which fit (package value, and the document's own). -/
namespace Go.Proofs.YtbfihajgjbpmaaaGreat
open Go.ChangeShapes Go.WideShapes Go.ChangeAt Go.RowKit
set_option linter.unusedVariables false
set_option maxRecDepth 4000

/-- a value of the program's -/
abbrev VV (n : Int) (s : ByteArray) : Value := .agg #[.int .i64 n, .string s]
/-- whether a value fits -/
def fitsB (t n : Int) (s : ByteArray) : Bool := if t = 1 ∨ t = 2 then s.toList.isEmpty else if t = 3 then (decide (n = 0) && decide ((s.size : Int) ≤ 60)) else false

set_option maxHeartbeats 400000 in
theorem fits_any (t n : Int) (s : ByteArray) (w : World) :
    Calls Tryz.prog 83 #[.int .i64 t, VV n s] w fun e w' => e = .returned (.bool (fitsB t n s)) ∧ Below w.heap.size w w' := by
  by_cases h1 : t = 1
  · subst h1
    go_enter Tryz.func83, Tryz.ntmps83
    go_wp2
    go_ret
    exact ⟨rfl, Joins.below_alloc1 _ _⟩
  · by_cases h2 : t = 2
    · subst h2
      go_enter Tryz.func83, Tryz.ntmps83
      go_wp2
      go_ret
      exact ⟨rfl, Joins.below_alloc1 _ _⟩
    · by_cases h3 : t = 3
      · subst h3
        by_cases h4 : n = 0
        · subst h4
          go_enter Tryz.func83, Tryz.ntmps83
          go_wp2
          go_ret
          exact ⟨rfl, Joins.below_alloc1 _ _⟩
        · go_enter Tryz.func83, Tryz.ntmps83
          go_wp2
          go_ret
          exact ⟨by simp [fitsB, h4], Joins.below_alloc1 _ _⟩
      · go_enter Tryz.func83, Tryz.ntmps83
        go_wp2
        go_ret
        exact ⟨by simp [fitsB, h1, h2, h3], Joins.below_alloc1 _ _⟩

/-- a value in a block -/
def Bx (w : World) (b : Nat) (n : Int) (s : ByteArray) : Prop := w.cell? ⟨b, 0, none⟩ = some (.int .i64 n) ∧ w.cell? ⟨b, 1, none⟩ = some (.string s)
theorem Bx.new (w : World) (n : Int) (s : ByteArray) (t : TypeId) : Bx (w.alloc (.cells #[.int .i64 n, .string s] t)) w.heap.size n s := ⟨by go_simp, by go_simp⟩
theorem Bx.lt {w : World} {b : Nat} {n : Int} {s : ByteArray} (h : Bx w b n s) : b < w.heap.size := cell_lt h.1
theorem Bx.below {w w' : World} {b : Nat} {n : Int} {s : ByteArray} (h : Bx w b n s) (hb : Below w.heap.size w w') : Bx w' b n s :=
  ⟨by rw [hb.cell (p := ⟨b, 0, none⟩) h.lt]; exact h.1, by rw [hb.cell (p := ⟨b, 1, none⟩) h.lt]; exact h.2⟩
theorem Bx.alloc {w : World} {b : Nat} {n : Int} {s : ByteArray} (h : Bx w b n s) (o : Obj) : Bx (w.alloc o) b n s := ⟨cell_alloc w o h.1, cell_alloc w o h.2⟩

theorem Bx.put {w : World} {b : Nat} {n : Int} {s : ByteArray} (h : Bx w b n s) (m : Int) (r : ByteArray) : Bx ((w.setCell ⟨b, 0, none⟩ (.int .i64 m)).setCell ⟨b, 1, none⟩ (.string r)) b m r :=
  ⟨by rw [World.cell?_setCell_other _ _ _ _ (by simp)]; exact World.cell?_setCell_same _ _ _ h.1,
   World.cell?_setCell_same _ _ _ (by rw [World.cell?_setCell_other _ _ _ _ (by simp)]; exact h.2)⟩
theorem ld_vv {w : World} (b : Nat) {n : Int} {s : ByteArray} (hc : Bx w b n s) : (loadVar 62 ⟨b, 0, none⟩).run Tryz.prog w = .ok (VV n s) w := by
  obtain ⟨h0, h1⟩ := hc
  go_simp
theorem res_vv {fn : Func} {p : Tmp} (h : fn.results = #[.cell p 62]) (tmps : Array Value) {w : World} (b : Nat) {n : Int} {s : ByteArray} (hp : tmps.getD p undef = .pointer (some ⟨b, 0, none⟩)) (hc : Bx w b n s) :
    (results fn tmps).run Tryz.prog w = .ok (VV n s) w := by
  have hp' : tmps[p]?.getD undef = .pointer (some ⟨b, 0, none⟩) := by simpa using hp
  simp [results, h, hp', asAddr, ld_vv b hc]
theorem empty_is (s : ByteArray) : s.toList.isEmpty = decide (s.size = 0) := by
  rw [ByteArray.toList_eq]
  rcases hs : s.data.toList with _ | ⟨a, l⟩
  · have : s.size = 0 := by have h := congrArg List.length hs; rw [Array.length_toList] at h; exact h
    simp [this]
  · have : s.size ≠ 0 := by have h := congrArg List.length hs; rw [Array.length_toList] at h; have h2 : s.size = s.data.size := rfl; simp at h; omega
    simp [this]
theorem fits_num {t n : Int} (h : t = 1 ∨ t = 2) : fitsB t n ⟨#[]⟩ = true := by rw [fitsB, if_pos h, empty_is]; rfl
/-- at most k bytes of a text -/
def cut (k : Nat) (s : ByteArray) : ByteArray := if s.size ≤ k then s else s.extract 0 k
theorem cut_size (k : Nat) (s : ByteArray) : (cut k s).size ≤ k := by
  unfold cut; split
  · assumption
  · simp [ByteArray.size_extract]; omega
theorem cut_all {k : Nat} {s : ByteArray} (h : s.size ≤ k) : cut k s = s := by rw [cut, if_pos h]
theorem cut_part {k : Nat} {s : ByteArray} (h : ¬ s.size ≤ k) : cut k s = s.extract 0 k := by rw [cut, if_neg h]
set_option maxHeartbeats 400000 in
theorem rfits_any (t n : Int) (s : ByteArray) (w : World) :
    Calls Tryz.prog 61 #[.int .i64 t, VV n s] w fun e w' => e = .returned (.bool (fitsB t n s)) ∧ Below w.heap.size w w' := by
  by_cases h1 : t = 1
  · subst h1
    go_enter Tryz.func61, Tryz.ntmps61
    go_wp2
    go_ret
    exact ⟨rfl, Joins.below_alloc1 _ _⟩
  · by_cases h2 : t = 2
    · subst h2
      go_enter Tryz.func61, Tryz.ntmps61
      go_wp2
      go_ret
      exact ⟨rfl, Joins.below_alloc1 _ _⟩
    · by_cases h3 : t = 3
      · subst h3
        by_cases h4 : n = 0
        · subst h4
          go_enter Tryz.func61, Tryz.ntmps61
          go_wp2
          go_ret
          exact ⟨rfl, Joins.below_alloc1 _ _⟩
        · go_enter Tryz.func61, Tryz.ntmps61
          go_wp2
          go_ret
          exact ⟨by simp [fitsB, h4], Joins.below_alloc1 _ _⟩
      · go_enter Tryz.func61, Tryz.ntmps61
        go_wp2
        go_ret
        exact ⟨by simp [fitsB, h1, h2, h3], Joins.below_alloc1 _ _⟩
end Go.Proofs.YtbfihajgjbpmaaaGreat
/- Slices of values in memory. -/
namespace Go.Proofs.YtbfihajgjbpmaaaGreat
open Go.ChangeShapes Go.WideShapes Go.ChangeAt Go.RowKit
set_option linter.unusedVariables false
set_option maxRecDepth 4000

/-- the slice at A of n values is vs -/
abbrev WV (w : World) (A : Option Addr) (n : Nat) (vs : List (Int × ByteArray)) : Prop := SV 2 w A n (vcells vs)
theorem WV.len {w : World} {A : Option Addr} {N : Nat} {vs : List (Int × ByteArray)} (h : WV w A N vs) : vs.length = N := by have := h.1; rw [vcells_len] at this; omega
abbrev v0 : Int × ByteArray := (0, ⟨#[]⟩)
theorem WV.at {w : World} {A : Option Addr} {N : Nat} {vs : List (Int × ByteArray)} (h : WV w A N vs) (i : Nat) (hi : i < N) :
    ∃ b off, A = some ⟨b, off, none⟩ ∧ w.cell? ⟨b, off + i * 2, none⟩ = some (.int .i64 (vs.getD i v0).1) ∧ w.cell? ⟨b, off + i * 2 + 1, none⟩ = some (.string (vs.getD i v0).2) := by
  have hl := WV.len h
  have h3 := h.2.2
  rcases h3 with h3 | ⟨b, off, rfl, hc⟩
  · omega
  · refine ⟨b, off, rfl, ?_⟩
    have := SV.value h i (by omega)
    have e : vs.getD i v0 = vs[i]'(by omega) := by simp [List.getD, show i < vs.length by omega]
    rw [e, Nat.mul_comm i 2]
    exact this
abbrev RgV (vs : List (Int × ByteArray)) : Prop := ∀ v ∈ vs, -9223372036854775808 ≤ v.1 ∧ v.1 ≤ 9223372036854775807
theorem RgV.at {vs : List (Int × ByteArray)} (h : RgV vs) {i : Nat} (hi : i < vs.length) : -9223372036854775808 ≤ (vs.getD i v0).1 ∧ (vs.getD i v0).1 ≤ 9223372036854775807 := by
  have : vs.getD i v0 = vs[i] := by simp [List.getD, hi]
  rw [this]; exact h _ (List.getElem_mem hi)
theorem RgV.get {vs : List (Int × ByteArray)} (h : RgV vs) (i : Nat) : -9223372036854775808 ≤ (vs.getD i v0).1 ∧ (vs.getD i v0).1 ≤ 9223372036854775807 := by
  by_cases hi : i < vs.length
  · exact h.at hi
  · simp [List.getD, List.getElem?_eq_none (Nat.le_of_not_lt hi)]
theorem two_one (a : Int) (s : ByteArray) : ∀ u ∈ [Value.int .i64 a, Value.string s], u.oneCell' = true := by
  intro u hu; simp at hu; rcases hu with rfl | rfl <;> rfl
theorem eqv_ne (y z : Int × ByteArray) (w : World) : (if y.1 = z.1 then if y.2.toList = z.2.toList then Result.ok (Next.value (.bool false)) w else Result.ok (Next.value (.bool true)) w else Result.ok (Next.value (.bool true)) w) = Result.ok (Next.value (.bool (!decide (y = z)))) w := by
  obtain ⟨a, s⟩ := y
  obtain ⟨b, t⟩ := z
  by_cases h1 : a = b
  · by_cases h2 : s = t
    · simp [h1, h2]
    · have : ¬ s.toList = t.toList := fun h => h2 (toList_inj h)
      simp [h1, h2, this]
  · simp [h1]
theorem listV_getD {ts us : List (Int × ByteArray)} (hl : ts.length = us.length) (h : ∀ i, i < ts.length → ts.getD i v0 = us.getD i v0) : ts = us := by
  refine List.ext_getElem hl (fun i h1 h2 => ?_)
  have := h i h1
  simpa [List.getD, h1, h2] using this
theorem vcells_take : ∀ (l : List (Int × ByteArray)) (k : Nat), vcells (l.take k) = (vcells l).take (k * 2)
  | [], k => by simp [vcells]
  | v :: l, 0 => by simp [vcells]
  | v :: l, k + 1 => by rw [List.take_succ_cons, vcells, vcells, vcells_take l k, show (k + 1) * 2 = k * 2 + 1 + 1 from by omega]; rfl
theorem WV.takes {w : World} {A : Option Addr} {n : Nat} {vs : List (Int × ByteArray)} (h : WV w A n vs) (k : Nat) (hk : k ≤ n) : WV w A k (vs.take k) := by
  have := SV.take h k hk
  rwa [← vcells_take] at this
theorem el_vals : El 45 62 2 24 (.agg #[.int .i64 0, .string ⟨#[]⟩]) := ⟨Tryz.underlying45, by kernel_rfl, rfl, by omega⟩
end Go.Proofs.YtbfihajgjbpmaaaGreat
