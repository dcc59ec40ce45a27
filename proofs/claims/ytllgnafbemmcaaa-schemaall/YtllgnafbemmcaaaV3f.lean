/- Values in blocks of memory: how they stand calls, new blocks and stores; plain facts on sums. -/
import Derived.Test.YtllgnafbemmcaaaV3e
namespace Go.Proofs.Ytllgnafbemmcaaa
open Go.ChangeShapes Go.WideShapes Go.ChangeAt Go.RowKit
set_option linter.unusedVariables false

theorem keepc {w w' : World} {b i : Nat} {v : Value} (h : w.cell? ⟨b, i, none⟩ = some v) (hb : Below w.heap.size w w') : w'.cell? ⟨b, i, none⟩ = some v := by rw [hb.cell (p := ⟨b, i, none⟩) (cell_lt h)]; exact h
theorem keepo {w : World} {b i : Nat} {v : Value} (h : w.cell? ⟨b, i, none⟩ = some v) : ∀ o, (w.alloc o).cell? ⟨b, i, none⟩ = some v := fun o => cell_alloc w o h
theorem Bx.set {w : World} {b g i : Nat} {n : Int} {s : ByteArray} (h : Bx w b n s) (hg : b ≠ g) (v : Value) : Bx (w.setCell ⟨g, i, none⟩ v) b n s :=
  ⟨by rw [World.cell?_setCell_other _ _ _ _ (by simp)]; exact h.1, by rw [World.cell?_setCell_other _ _ _ _ (by simp)]; exact h.2⟩
/-- three values in blocks, and all that was there before -/
def Tri (w W : World) (ba : Nat) (an : Int) (sa : ByteArray) (bb : Nat) (bn : Int) (sb : ByteArray) (bc : Nat) (cn : Int) (sc : ByteArray) : Prop :=
  Bx W ba an sa ∧ Bx W bb bn sb ∧ Bx W bc cn sc ∧ Below w.heap.size w W
section
variable {w W : World} {ba bb bc : Nat} {an bn cn : Int} {sa sb sc : ByteArray}
theorem Tri.below (h : Tri w W ba an sa bb bn sb bc cn sc) {W' : World} (hb : Below W.heap.size W W') : Tri w W' ba an sa bb bn sb bc cn sc :=
  ⟨h.1.below hb, h.2.1.below hb, h.2.2.1.below hb, Below.then h.2.2.2 hb⟩
theorem Tri.alloc (h : Tri w W ba an sa bb bn sb bc cn sc) (o : Obj) : Tri w (W.alloc o) ba an sa bb bn sb bc cn sc :=
  h.below (Joins.below_alloc1 W o)
theorem Tri.drew (h : Tri w W ba an sa bb bn sb bc cn sc) : Tri w W.drew ba an sa bb bn sb bc cn sc := ⟨h.1, h.2.1, h.2.2.1, h.2.2.2.drew⟩
end
/-- a block that was made just now -/
def Fr (w W : World) (g : Nat) : Prop := Bx W g 0 ⟨#[]⟩ ∧ W.frozen? ⟨g, 0, none⟩ = false ∧ W.frozen? ⟨g, 1, none⟩ = false ∧ w.heap.size ≤ g
theorem Fr.new {w W : World} (h : Below w.heap.size w W) : Fr w (W.alloc (.cells #[.int .i64 0, .string ⟨#[]⟩] 50)) W.heap.size :=
  ⟨Bx.new _ _ _ _, World.frozen?_alloc_new _ _ _ _, World.frozen?_alloc_new _ _ _ _, h.size⟩
theorem Fr.below {w W W' : World} {g : Nat} (h : Fr w W g) (hb : Below W.heap.size W W') : Fr w W' g :=
  ⟨h.1.below hb, by rw [hb.frozen (p := ⟨g, 0, none⟩) h.1.lt]; exact h.2.1, by rw [hb.frozen (p := ⟨g, 1, none⟩) h.1.lt]; exact h.2.2.1, h.2.2.2⟩
section
variable {w W : World} {ba bb bc g : Nat} {an bn cn : Int} {sa sb sc : ByteArray}
theorem Tri.put (h : Tri w W ba an sa bb bn sb bc cn sc) (hf : Fr w W g) (h1 : ba ≠ g) (h2 : bb ≠ g) (h3 : bc ≠ g) (n : Int) (s : ByteArray) :
    Tri w ((W.setCell ⟨g, 0, none⟩ (.int .i64 n)).setCell ⟨g, 1, none⟩ (.string s)) ba an sa bb bn sb bc cn sc :=
  ⟨(h.1.set h1 _).set h1 _, (h.2.1.set h2 _).set h2 _, (h.2.2.1.set h3 _).set h3 _, (h.2.2.2.setCell hf.2.2.2 _).setCell hf.2.2.2 _⟩
theorem Tri.ne (h : Tri w W ba an sa bb bn sb bc cn sc) : ba ≠ W.heap.size ∧ bb ≠ W.heap.size ∧ bc ≠ W.heap.size :=
  ⟨Nat.ne_of_lt h.1.lt, Nat.ne_of_lt h.2.1.lt, Nat.ne_of_lt h.2.2.1.lt⟩
end
/-- four of them -/
def Qua (w W : World) (ba : Nat) (an : Int) (sa : ByteArray) (bb : Nat) (bn : Int) (sb : ByteArray) (bc : Nat) (cn : Int) (sc : ByteArray) (bd : Nat) (dn : Int) (sd : ByteArray) : Prop :=
  Tri w W ba an sa bb bn sb bc cn sc ∧ Bx W bd dn sd
section
variable {w W : World} {ba bb bc bd g : Nat} {an bn cn dn : Int} {sa sb sc sd : ByteArray}
theorem Qua.below (h : Qua w W ba an sa bb bn sb bc cn sc bd dn sd) {W' : World} (hb : Below W.heap.size W W') : Qua w W' ba an sa bb bn sb bc cn sc bd dn sd := ⟨h.1.below hb, h.2.below hb⟩
theorem Qua.alloc (h : Qua w W ba an sa bb bn sb bc cn sc bd dn sd) (o : Obj) : Qua w (W.alloc o) ba an sa bb bn sb bc cn sc bd dn sd := h.below (Joins.below_alloc1 W o)
theorem Qua.drew (h : Qua w W ba an sa bb bn sb bc cn sc bd dn sd) : Qua w W.drew ba an sa bb bn sb bc cn sc bd dn sd := ⟨h.1.drew, h.2⟩
theorem Qua.ne (h : Qua w W ba an sa bb bn sb bc cn sc bd dn sd) : (ba ≠ W.heap.size ∧ bb ≠ W.heap.size ∧ bc ≠ W.heap.size) ∧ bd ≠ W.heap.size := ⟨h.1.ne, Nat.ne_of_lt h.2.lt⟩
theorem Qua.put (h : Qua w W ba an sa bb bn sb bc cn sc bd dn sd) (hf : Fr w W g) (ne : (ba ≠ g ∧ bb ≠ g ∧ bc ≠ g) ∧ bd ≠ g) (n : Int) (s : ByteArray) :
    Qua w ((W.setCell ⟨g, 0, none⟩ (.int .i64 n)).setCell ⟨g, 1, none⟩ (.string s)) ba an sa bb bn sb bc cn sc bd dn sd :=
  ⟨h.1.put hf ne.1.1 ne.1.2.1 ne.1.2.2 _ _, (h.2.set ne.2 _).set ne.2 _⟩
end
theorem ar_cell {w w' : World} {cs : Array Value} {T : TypeId} (hb : Below (w.alloc (.cells cs T)).heap.size (w.alloc (.cells cs T)) w') (i : Nat) {v : Value} (h : cs[i]? = some v) : w'.cell? ⟨w.heap.size, i, none⟩ = some v := by
  refine keepc ?_ hb
  rw [World.cell?_alloc_new]; exact h
theorem fitN_range {k n : Int} (h : -9223372036854775808 ≤ n ∧ n ≤ 9223372036854775807) : -9223372036854775808 ≤ fitN k n ∧ fitN k n ≤ 9223372036854775807 := by
  unfold fitN; split <;> omega
theorem fits_empty {k n : Int} {s : ByteArray} (hk : k = 1 ∨ k = 2) (h : fitsB k n s = true) : s = ⟨#[]⟩ := by
  rw [fitsB, if_pos hk, empty_is] at h
  have hs : s.size = 0 := by simpa using h
  obtain ⟨⟨l⟩⟩ := s
  have hl : l = [] := List.eq_nil_of_length_eq_zero hs
  rw [hl]
section
variable {k an bn cn : Int} {sa sb sc : ByteArray}
theorem addN_t (ha : fitsB 3 an sa = true) (hb : fitsB 3 bn sb = true) : addN 3 an sa bn sb = bn ∧ addS 3 an sa bn sb = sb := by simp [addN, addS, ha, hb]
theorem addN_n (hk : k = 1 ∨ k = 2) (ha : fitsB k an sa = true) (hb : fitsB k bn sb = true) : addN k an sa bn sb = wrap64 (an + bn) ∧ addS k an sa bn sb = ⟨#[]⟩ := by
  have h3 : k ≠ 3 := by omega
  simp [addN, addS, ha, hb, h3]
theorem add_fits (hk : k = 1 ∨ k = 2 ∨ k = 3) (ha : fitsB k an sa = true) (hb : fitsB k bn sb = true) : fitsB k (addN k an sa bn sb) (addS k an sa bn sb) = true := by
  rcases (by omega : k = 3 ∨ (k = 1 ∨ k = 2)) with rfl | h
  · rw [(addN_t ha hb).1, (addN_t ha hb).2]; exact hb
  · rw [(addN_n h ha hb).1, (addN_n h ha hb).2]; exact fits_num h
theorem add_assoc (hk : k = 1 ∨ k = 2 ∨ k = 3) (ha : fitsB k an sa = true) (hb : fitsB k bn sb = true) (hc : fitsB k cn sc = true) :
    addN k (addN k an sa bn sb) (addS k an sa bn sb) cn sc = addN k an sa (addN k bn sb cn sc) (addS k bn sb cn sc) ∧
    addS k (addN k an sa bn sb) (addS k an sa bn sb) cn sc = addS k an sa (addN k bn sb cn sc) (addS k bn sb cn sc) := by
  have h1 := add_fits hk ha hb
  have h2 := add_fits hk hb hc
  rcases (by omega : k = 3 ∨ (k = 1 ∨ k = 2)) with rfl | h
  · rw [(addN_t h1 hc).1, (addN_t h1 hc).2, (addN_t ha h2).1, (addN_t ha h2).2, (addN_t hb hc).1, (addN_t hb hc).2]; exact ⟨rfl, rfl⟩
  · rw [(addN_n h h1 hc).1, (addN_n h h1 hc).2, (addN_n h ha h2).1, (addN_n h ha h2).2, (addN_n h hb hc).1, (addN_n h ha hb).1]
    exact ⟨by rw [wrap64, wrap64, wrap64, wrap64]; omega, rfl⟩
theorem add_zero (hk : k = 1 ∨ k = 2) (ha : fitsB k an sa = true) (q : -9223372036854775808 ≤ an ∧ an ≤ 9223372036854775807) : addN k an sa 0 ⟨#[]⟩ = an ∧ addS k an sa 0 ⟨#[]⟩ = sa := by
  rw [(addN_n hk ha (fits_num hk)).1, (addN_n hk ha (fits_num hk)).2, fits_empty hk ha]
  exact ⟨by rw [wrap64]; omega, rfl⟩
end
theorem field0 (n : Int) (s : ByteArray) (W : World) : (Instr.field 50 (VV n s) 0).run Try.prog W = .ok (.int .i64 n) W := by
  kernel_rfl
theorem wrap_64 (x : Int) : IntKind.i64.wrap x = wrap64 x := by rw [IntKind.wrap_i64, wrap64]
end Go.Proofs.Ytllgnafbemmcaaa
