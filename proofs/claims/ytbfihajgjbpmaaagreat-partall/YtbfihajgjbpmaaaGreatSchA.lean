/- Texts that belong together, one behind the other: V3s, V3a, V3b, V3c, V3d, V3e, V3f, V3o, S4v. -/
import Derived.Shelf.Small.Strs
import Derived.Test.YtbfihajgjbpmaaaGreatProg
import Derived.Test.YtbfihajgjbpmaaaGreatVals
import Derived.Test.YtbfihajgjbpmaaaGreatBase
import Derived.Lib.SmallJoins
import Derived.Lib.Hide
import Derived.Laws.ResultCell
import Derived.Shelf.Strconv.Itoa3
import Derived.Deep.DeepCutAuto
/- The library's contract at this translation: the order of two texts. -/
namespace Go.Proofs
open Go.Shelf
def Tryz.lays106_ren : Go.Shelf.Ren := ⟨fun | 106 => 131 | 213 => 145 | 265 => 150 | n => n, fun | 9 => 9 | 3 => 3 | n => n, fun | n => n⟩
theorem Tryz.lays106 : Go.Proofs.Lays.n106 Tryz.prog Tryz.lays106_ren := {
  mixed := by kernel_rfl
  f106 := Tryz.func131.trans (congrArg some (by kernel_rfl))
  f213 := Tryz.func145.trans (congrArg some (by kernel_rfl))
  f265 := Tryz.func150.trans (congrArg some (by kernel_rfl))
  t3 := Tryz.underlying3
  a3 := Tryz.isAgg3
  z3 := Tryz.sizeOf3
  v3 := Tryz.zeroValue3
  t9 := Tryz.underlying9
  a9 := Tryz.isAgg9
  z9 := Tryz.sizeOf9
  v9 := Tryz.zeroValue9 }
open Go.RowKit in
theorem Tryz.strings_Compare (a b : ByteArray) (w : World) :
    Calls Tryz.prog 131 #[.string a, .string b] w fun e w' => e = .returned (.int .i64 (Lib.compareBytes a.data.toList b.data.toList)) ∧ w' = w := Any.strings_Compare Tryz.lays106 a b w
end Go.Proofs
/- Contracts of Fits, bothFit, Compare and Add, over this seat's translation. -/
namespace Go.Proofs.YtbfihajgjbpmaaaGreat
open Go.ChangeShapes Go.WideShapes Go.ChangeAt Go.RowKit
set_option linter.unusedVariables false
set_option maxRecDepth 4000

set_option maxHeartbeats 400000 in
theorem both_any (t n m : Int) (s r : ByteArray) (w : World) :
    Calls Tryz.prog 128 #[.int .i64 t, VV n s, VV m r] w fun e w' => e = .returned (.bool (fitsB t n s && fitsB t m r)) ∧ Below w.heap.size w w' := by
  cases hf : fitsB t n s
  · go_enter Tryz.func128, Tryz.ntmps128
    go_wp2_with (go_at_call 83; refine (fits_any t n s _).mono ?_; rw [hf]; rintro e w' ⟨rfl, hb⟩)
    go_ret
    exact ⟨rfl, after2 hb⟩
  · go_enter Tryz.func128, Tryz.ntmps128
    go_wp2_with fail
    refine (fits_any t n s _).mono ?_; rw [hf]; rintro e w' ⟨rfl, hb⟩
    have h2 := (Bx.new (w.alloc (.cells #[.int .i64 n, .string s] 62)) m r 62).below hb
    rw [show (w.alloc (.cells #[.int .i64 n, .string s] 62)).heap.size = w.heap.size + 1 by simp] at h2
    obtain ⟨c0, c1⟩ := h2
    go_wp2_with fail
    refine (fits_any t m r _).mono ?_; rintro e w2 ⟨rfl, hb2⟩
    go_wp2
    go_ret
    exact ⟨by simp, Below.then (after2 hb) hb2⟩
set_option maxHeartbeats 400000 in
theorem cmpi_any (n m : Int) (w : World) :
    Calls Tryz.prog 129 #[.int .i64 n, .int .i64 m] w fun e w' => e = .returned (.int .i64 (cmpI n m)) ∧ w' = w := by
  go_enter Tryz.func129, Tryz.ntmps129
  go_wp2
  all_goals (go_ret; refine ⟨ret_int ?_, rfl⟩; unfold cmpI; (repeat' split) <;> omega)
set_option maxHeartbeats 400000 in
theorem cmpu_any (n m : Int) (w : World) :
    Calls Tryz.prog 130 #[.int .u64 n, .int .u64 m] w fun e w' => e = .returned (.int .i64 (cmpI n m)) ∧ w' = w := by
  go_enter Tryz.func130, Tryz.ntmps130
  go_wp2
  all_goals (go_ret; refine ⟨ret_int ?_, rfl⟩; unfold cmpI; (repeat' split) <;> omega)
/-- the order of two values -/
def cmpV (t n : Int) (s : ByteArray) (m : Int) (r : ByteArray) : Int :=
  if (fitsB t n s && fitsB t m r) = true then (if t = 1 then cmpI n m else if t = 2 then cmpI (IntKind.u64.wrap n) (IntKind.u64.wrap m) else Lib.compareBytes s.data.toList r.data.toList) else 0
theorem cmpV_not {t n m : Int} {s r : ByteArray} (h : (fitsB t n s && fitsB t m r) = false) : cmpV t n s m r = 0 := by unfold cmpV; rw [if_neg (by rw [h]; simp)]
theorem cmpV_is {t n m : Int} {s r : ByteArray} (h : (fitsB t n s && fitsB t m r) = true) : cmpV t n s m r = (if t = 1 then cmpI n m else if t = 2 then cmpI (IntKind.u64.wrap n) (IntKind.u64.wrap m) else Lib.compareBytes s.data.toList r.data.toList) := by unfold cmpV; rw [if_pos h]
set_option maxHeartbeats 400000 in
theorem compare_any (t n m : Int) (s r : ByteArray) (w : World) :
    Calls Tryz.prog 113 #[.int .i64 t, VV n s, VV m r] w fun e w' => e = .returned (.int .i64 (cmpV t n s m r)) ∧ Below w.heap.size w w' := by
  go_enter Tryz.func113, Tryz.ntmps113
  go_wp2_with fail
  refine (both_any t n m s r _).mono ?_
  rintro e w' ⟨rfl, hb⟩
  have h2 := (Bx.new (w.alloc (.cells #[.int .i64 n, .string s] 62)) m r 62).below hb
  have h1 := ((Bx.new w n s 62).alloc (.cells #[.int .i64 m, .string r] 62)).below hb
  rw [show (w.alloc (.cells #[.int .i64 n, .string s] 62)).heap.size = w.heap.size + 1 by simp] at h2
  obtain ⟨c0, c1⟩ := h1
  obtain ⟨d0, d1⟩ := h2
  have hb' := after2 hb
  clear hb
  cases hf : (fitsB t n s && fitsB t m r)
  · have hn := Lib.hid (cmpV_not hf)
    clear hf
    go_wp2_with fail
    go_ret
    exact ⟨ret_int hn.out.symm, hb'⟩
  · have hn := Lib.hid (cmpV_is hf)
    clear hf
    by_cases h1 : t = 1
    · subst h1
      go_wp2_with (go_at_call 129; refine (cmpi_any n m _).mono ?_; rintro e w' ⟨rfl, rfl⟩)
      go_ret
      exact ⟨ret_int (by rw [hn.out]; simp), hb'⟩
    · by_cases h2 : t = 2
      · subst h2
        go_wp2_with (go_at_call 130; refine (cmpu_any _ _ _).mono ?_; rintro e w' ⟨rfl, rfl⟩)
        go_ret
        exact ⟨ret_int (by rw [hn.out]; simp), hb'⟩
      · go_wp2_with (go_at_call 131; refine (Go.Proofs.Tryz.strings_Compare s r _).mono ?_; rintro e w' ⟨rfl, rfl⟩)
        go_ret
        exact ⟨ret_int (by rw [hn.out]; simp [h1, h2]), hb'⟩
/-- the sum of two values -/
def addN (t n : Int) (s : ByteArray) (m : Int) (r : ByteArray) : Int := if (fitsB t n s && fitsB t m r) = true then (if t = 3 then m else wrap64 (n + m)) else 0
def addS (t n : Int) (s : ByteArray) (m : Int) (r : ByteArray) : ByteArray := if (fitsB t n s && fitsB t m r) = true then (if t = 3 then r else ⟨#[]⟩) else ⟨#[]⟩
end Go.Proofs.YtbfihajgjbpmaaaGreat
/- How values are written: strconv.FormatUint, quoted and Text, over this seat's translation. -/
namespace Go.Proofs.YtbfihajgjbpmaaaGreat
open Go.ChangeShapes Go.WideShapes Go.ChangeAt Go.RowKit Go.Sort Go.Lib
set_option linter.unusedVariables false
set_option maxRecDepth 4000

end Go.Proofs.YtbfihajgjbpmaaaGreat
/- How texts are written: isPlain, quoted, Text. -/
namespace Go.Proofs.YtbfihajgjbpmaaaGreat
open Go.ChangeShapes Go.WideShapes Go.ChangeAt Go.RowKit
set_option linter.unusedVariables false
set_option maxRecDepth 4000

theorem index_str (s : ByteArray) (k : Nat) (hk : k < s.size) (w : World) : (Instr.index 9 (.string s) (.int .i64 (k : Int))).run Tryz.prog w = .ok (.int .u8 ((nums s).getD k 0)) w := by
  rw [run_index_string w 9 s .i64 k Tryz.underlying9, dif_pos ⟨by omega, by omega⟩]
  have h : (nums s).getD k 0 = ((s.data.toList[k]'(by rw [Array.length_toList]; exact hk)).toNat : Int) := by
    rw [nums, List.getD_eq_getElem?_getD, List.getElem?_map, List.getElem?_eq_getElem (by rw [Array.length_toList]; exact hk)]
    rfl
  rw [h]
  rfl
end Go.Proofs.YtbfihajgjbpmaaaGreat
/- How a value is written: Text; the statements' own helpers shown, kind, fit, some, short. -/
namespace Go.Proofs.YtbfihajgjbpmaaaGreat
open Go.ChangeShapes Go.WideShapes Go.ChangeAt Go.RowKit
set_option linter.unusedVariables false
set_option maxRecDepth 4000

theorem fits_size {n : Int} {s : ByteArray} (h : fitsB 3 n s = true) : s.size ≤ 60 := by
  simp [fitsB] at h; omega
end Go.Proofs.YtbfihajgjbpmaaaGreat
/- The statements' own helpers: shown, kind, fit, some, short. -/
namespace Go.Proofs.YtbfihajgjbpmaaaGreat
open Go.ChangeShapes Go.WideShapes Go.ChangeAt Go.RowKit
set_option linter.unusedVariables false
set_option maxRecDepth 4000

/-- a value that is made to fit -/
def fitN (t n : Int) : Int := if t = 3 then 0 else n
def fitS (t : Int) (s : ByteArray) : ByteArray := if t = 3 then cut 60 s else ⟨#[]⟩
theorem fitN_t {t n : Int} (h : t = 3) : fitN t n = 0 := by rw [fitN, if_pos h]
theorem fitN_n {t n : Int} (h : t ≠ 3) : fitN t n = n := by rw [fitN, if_neg h]
theorem fitS_t {t : Int} {s : ByteArray} (h : t = 3) : fitS t s = cut 60 s := by rw [fitS, if_pos h]
theorem fitS_n {t : Int} {s : ByteArray} (h : t ≠ 3) : fitS t s = ⟨#[]⟩ := by rw [fitS, if_neg h]
theorem fit_fits {t n : Int} {s : ByteArray} (h : t = 1 ∨ t = 2 ∨ t = 3) : fitsB t (fitN t n) (fitS t s) = true := by
  by_cases h3 : t = 3
  · subst h3
    have := cut_size 60 s
    rw [fitN_t rfl, fitS_t rfl]
    simp [fitsB]; omega
  · rw [fitN_n h3, fitS_n h3]
    exact fits_num (by omega)
end Go.Proofs.YtbfihajgjbpmaaaGreat
/- Values in blocks of memory: how they stand calls, new blocks and stores; plain facts on sums. -/
namespace Go.Proofs.YtbfihajgjbpmaaaGreat
open Go.ChangeShapes Go.WideShapes Go.ChangeAt Go.RowKit
set_option linter.unusedVariables false
set_option maxRecDepth 4000

theorem Bx.set {w : World} {b g i : Nat} {n : Int} {s : ByteArray} (h : Bx w b n s) (hg : b ≠ g) (v : Value) : Bx (w.setCell ⟨g, i, none⟩ v) b n s :=
  ⟨by rw [World.cell?_setCell_other _ _ _ _ (by simp)]; exact h.1, by rw [World.cell?_setCell_other _ _ _ _ (by simp)]; exact h.2⟩
/-- three values in blocks, and all that was there before -/
def Tri (w W : World) (ba : Nat) (an : Int) (sa : ByteArray) (bb : Nat) (bn : Int) (sb : ByteArray) (bc : Nat) (cn : Int) (sc : ByteArray) : Prop :=
  Bx W ba an sa ∧ Bx W bb bn sb ∧ Bx W bc cn sc ∧ Below w.heap.size w W
section
variable {w W : World} {ba bb bc : Nat} {an bn cn : Int} {sa sb sc : ByteArray}
theorem Tri.below (h : Tri w W ba an sa bb bn sb bc cn sc) {W' : World} (hb : Below W.heap.size W W') : Tri w W' ba an sa bb bn sb bc cn sc :=
  ⟨h.1.below hb, h.2.1.below hb, h.2.2.1.below hb, Below.then h.2.2.2 hb⟩
theorem Tri.alloc (h : Tri w W ba an sa bb bn sb bc cn sc) (o : Obj) : Tri w (W.alloc o) ba an sa bb bn sb bc cn sc :=
  h.below (Joins.below_alloc1 W o)
theorem Tri.drew (h : Tri w W ba an sa bb bn sb bc cn sc) : Tri w W.drew ba an sa bb bn sb bc cn sc := ⟨h.1, h.2.1, h.2.2.1, h.2.2.2.drew⟩
end
/-- a block that was made just now -/
def Fr (w W : World) (g : Nat) : Prop := Bx W g 0 ⟨#[]⟩ ∧ W.frozen? ⟨g, 0, none⟩ = false ∧ W.frozen? ⟨g, 1, none⟩ = false ∧ w.heap.size ≤ g
theorem Fr.new {w W : World} (h : Below w.heap.size w W) : Fr w (W.alloc (.cells #[.int .i64 0, .string ⟨#[]⟩] 62)) W.heap.size :=
  ⟨Bx.new _ _ _ _, World.frozen?_alloc_new _ _ _ _, World.frozen?_alloc_new _ _ _ _, h.size⟩
theorem Fr.below {w W W' : World} {g : Nat} (h : Fr w W g) (hb : Below W.heap.size W W') : Fr w W' g :=
  ⟨h.1.below hb, by rw [hb.frozen (p := ⟨g, 0, none⟩) h.1.lt]; exact h.2.1, by rw [hb.frozen (p := ⟨g, 1, none⟩) h.1.lt]; exact h.2.2.1, h.2.2.2⟩
section
variable {w W : World} {ba bb bc g : Nat} {an bn cn : Int} {sa sb sc : ByteArray}
theorem Tri.put (h : Tri w W ba an sa bb bn sb bc cn sc) (hf : Fr w W g) (h1 : ba ≠ g) (h2 : bb ≠ g) (h3 : bc ≠ g) (n : Int) (s : ByteArray) :
    Tri w ((W.setCell ⟨g, 0, none⟩ (.int .i64 n)).setCell ⟨g, 1, none⟩ (.string s)) ba an sa bb bn sb bc cn sc :=
  ⟨(h.1.set h1 _).set h1 _, (h.2.1.set h2 _).set h2 _, (h.2.2.1.set h3 _).set h3 _, (h.2.2.2.setCell hf.2.2.2 _).setCell hf.2.2.2 _⟩
theorem Tri.ne (h : Tri w W ba an sa bb bn sb bc cn sc) : ba ≠ W.heap.size ∧ bb ≠ W.heap.size ∧ bc ≠ W.heap.size :=
  ⟨Nat.ne_of_lt h.1.lt, Nat.ne_of_lt h.2.1.lt, Nat.ne_of_lt h.2.2.1.lt⟩
end
/-- four of them -/
def Qua (w W : World) (ba : Nat) (an : Int) (sa : ByteArray) (bb : Nat) (bn : Int) (sb : ByteArray) (bc : Nat) (cn : Int) (sc : ByteArray) (bd : Nat) (dn : Int) (sd : ByteArray) : Prop :=
  Tri w W ba an sa bb bn sb bc cn sc ∧ Bx W bd dn sd
section
variable {w W : World} {ba bb bc bd g : Nat} {an bn cn dn : Int} {sa sb sc sd : ByteArray}
theorem Qua.below (h : Qua w W ba an sa bb bn sb bc cn sc bd dn sd) {W' : World} (hb : Below W.heap.size W W') : Qua w W' ba an sa bb bn sb bc cn sc bd dn sd := ⟨h.1.below hb, h.2.below hb⟩
theorem Qua.alloc (h : Qua w W ba an sa bb bn sb bc cn sc bd dn sd) (o : Obj) : Qua w (W.alloc o) ba an sa bb bn sb bc cn sc bd dn sd := h.below (Joins.below_alloc1 W o)
theorem Qua.drew (h : Qua w W ba an sa bb bn sb bc cn sc bd dn sd) : Qua w W.drew ba an sa bb bn sb bc cn sc bd dn sd := ⟨h.1.drew, h.2⟩
theorem Qua.ne (h : Qua w W ba an sa bb bn sb bc cn sc bd dn sd) : (ba ≠ W.heap.size ∧ bb ≠ W.heap.size ∧ bc ≠ W.heap.size) ∧ bd ≠ W.heap.size := ⟨h.1.ne, Nat.ne_of_lt h.2.lt⟩
theorem Qua.put (h : Qua w W ba an sa bb bn sb bc cn sc bd dn sd) (hf : Fr w W g) (ne : (ba ≠ g ∧ bb ≠ g ∧ bc ≠ g) ∧ bd ≠ g) (n : Int) (s : ByteArray) :
    Qua w ((W.setCell ⟨g, 0, none⟩ (.int .i64 n)).setCell ⟨g, 1, none⟩ (.string s)) ba an sa bb bn sb bc cn sc bd dn sd :=
  ⟨h.1.put hf ne.1.1 ne.1.2.1 ne.1.2.2 _ _, (h.2.set ne.2 _).set ne.2 _⟩
end
theorem fits_empty {k n : Int} {s : ByteArray} (hk : k = 1 ∨ k = 2) (h : fitsB k n s = true) : s = ⟨#[]⟩ := by
  rw [fitsB, if_pos hk, empty_is] at h
  have hs : s.size = 0 := by simpa using h
  obtain ⟨⟨l⟩⟩ := s
  have hl : l = [] := List.eq_nil_of_length_eq_zero hs
  rw [hl]
section
variable {k an bn cn : Int} {sa sb sc : ByteArray}
theorem addN_t (ha : fitsB 3 an sa = true) (hb : fitsB 3 bn sb = true) : addN 3 an sa bn sb = bn ∧ addS 3 an sa bn sb = sb := by simp [addN, addS, ha, hb]
theorem addN_n (hk : k = 1 ∨ k = 2) (ha : fitsB k an sa = true) (hb : fitsB k bn sb = true) : addN k an sa bn sb = wrap64 (an + bn) ∧ addS k an sa bn sb = ⟨#[]⟩ := by
  have h3 : k ≠ 3 := by omega
  simp [addN, addS, ha, hb, h3]
theorem add_fits (hk : k = 1 ∨ k = 2 ∨ k = 3) (ha : fitsB k an sa = true) (hb : fitsB k bn sb = true) : fitsB k (addN k an sa bn sb) (addS k an sa bn sb) = true := by
  rcases (by omega : k = 3 ∨ (k = 1 ∨ k = 2)) with rfl | h
  · rw [(addN_t ha hb).1, (addN_t ha hb).2]; exact hb
  · rw [(addN_n h ha hb).1, (addN_n h ha hb).2]; exact fits_num h
theorem add_assoc (hk : k = 1 ∨ k = 2 ∨ k = 3) (ha : fitsB k an sa = true) (hb : fitsB k bn sb = true) (hc : fitsB k cn sc = true) :
    addN k (addN k an sa bn sb) (addS k an sa bn sb) cn sc = addN k an sa (addN k bn sb cn sc) (addS k bn sb cn sc) ∧
    addS k (addN k an sa bn sb) (addS k an sa bn sb) cn sc = addS k an sa (addN k bn sb cn sc) (addS k bn sb cn sc) := by
  have h1 := add_fits hk ha hb
  have h2 := add_fits hk hb hc
  rcases (by omega : k = 3 ∨ (k = 1 ∨ k = 2)) with rfl | h
  · rw [(addN_t h1 hc).1, (addN_t h1 hc).2, (addN_t ha h2).1, (addN_t ha h2).2, (addN_t hb hc).1, (addN_t hb hc).2]; exact ⟨rfl, rfl⟩
  · rw [(addN_n h h1 hc).1, (addN_n h h1 hc).2, (addN_n h ha h2).1, (addN_n h ha h2).2, (addN_n h hb hc).1, (addN_n h ha hb).1]
    exact ⟨by rw [wrap64, wrap64, wrap64, wrap64]; omega, rfl⟩
theorem add_zero (hk : k = 1 ∨ k = 2) (ha : fitsB k an sa = true) (q : -9223372036854775808 ≤ an ∧ an ≤ 9223372036854775807) : addN k an sa 0 ⟨#[]⟩ = an ∧ addS k an sa 0 ⟨#[]⟩ = sa := by
  rw [(addN_n hk ha (fits_num hk)).1, (addN_n hk ha (fits_num hk)).2, fits_empty hk ha]
  exact ⟨by rw [wrap64]; omega, rfl⟩
end
end Go.Proofs.YtbfihajgjbpmaaaGreat
/- ValueOrder: the walk. -/
namespace Go.Proofs.YtbfihajgjbpmaaaGreat
open Go.ChangeShapes Go.WideShapes Go.ChangeAt Go.RowKit
set_option linter.unusedVariables false
set_option maxRecDepth 4000

theorem cmpB : ∀ (a b : List UInt8), Lib.compareBytes a b = cmpL (a.map fun x => (x.toNat : Int)) (b.map fun x => (x.toNat : Int))
  | [], [] => rfl
  | [], _ :: _ => rfl
  | _ :: _, [] => rfl
  | a :: l, b :: r => by
    rw [Lib.compareBytes, List.map_cons, List.map_cons, cmpL, cmpB l r]
    have h1 : (a < b) ↔ ((a.toNat : Int) < (b.toNat : Int)) := by rw [UInt8.lt_iff_toNat_lt]; omega
    have h2 : (b < a) ↔ ((b.toNat : Int) < (a.toNat : Int)) := by rw [UInt8.lt_iff_toNat_lt]; omega
    by_cases c1 : a < b
    · rw [if_pos c1, if_pos (h1.1 c1)]
    · rw [if_neg c1, if_neg (fun h => c1 (h1.2 h))]
      by_cases c2 : b < a
      · rw [if_pos c2, if_pos (h2.1 c2)]
      · rw [if_neg c2, if_neg (fun h => c2 (h2.2 h))]
theorem cmp_nums (a b : ByteArray) : Lib.compareBytes a.data.toList b.data.toList = cmpL (nums a) (nums b) := cmpB _ _
theorem cmpI_range (a b : Int) : cmpI a b = -1 ∨ cmpI a b = 0 ∨ cmpI a b = 1 := by
  unfold cmpI
  split
  · simp
  · split <;> simp
theorem cmpI_eq (a b : Int) : cmpI a b = 0 ↔ a = b := by
  unfold cmpI
  split
  · constructor <;> intro h <;> omega
  · split <;> constructor <;> intro h <;> omega
theorem cmpI_anti (a b : Int) : cmpI b a = - cmpI a b := by
  unfold cmpI
  by_cases h1 : a < b
  · rw [if_neg (by omega), if_pos h1, if_pos h1]; rfl
  · by_cases h2 : b < a
    · rw [if_pos h2, if_neg h1, if_pos h2]
    · rw [if_neg h2, if_neg h1, if_neg h1, if_neg h2]; rfl
theorem cmpI_trans (a b c : Int) (h1 : cmpI a b ≤ 0) (h2 : cmpI b c ≤ 0) : cmpI a c ≤ 0 := by
  unfold cmpI at *
  by_cases e1 : b < a
  · rw [if_neg (by omega), if_pos e1] at h1; omega
  · by_cases e2 : c < b
    · rw [if_neg (by omega), if_pos e2] at h2; omega
    · by_cases e3 : a < c
      · rw [if_pos e3]; omega
      · rw [if_neg e3, if_neg (by omega)]; omega
/-- all that an order has, of three values -/
structure Ord3 (x y z x' : Int) (e : Prop) : Prop where
  range : x = -1 ∨ x = 0 ∨ x = 1
  same : x = 0 ↔ e
  anti : x' = - x
  down : x ≤ 0 → y ≤ 0 → z ≤ 0
  up : 0 ≤ x → 0 ≤ y → 0 ≤ z
  zero : x = 0 → z = y
theorem cmpV_all {k an bn cn : Int} {sa sb sc : ByteArray} (hk : k = 1 ∨ k = 2 ∨ k = 3) (ha : fitsB k an sa = true) (hb : fitsB k bn sb = true) (hc : fitsB k cn sc = true)
    (qa : -9223372036854775808 ≤ an ∧ an ≤ 9223372036854775807) (qb : -9223372036854775808 ≤ bn ∧ bn ≤ 9223372036854775807) :
    Ord3 (cmpV k an sa bn sb) (cmpV k bn sb cn sc) (cmpV k an sa cn sc) (cmpV k bn sb an sa) (an = bn ∧ sa = sb) := by
  have e1 := cmpV_is (s := sa) (r := sb) (n := an) (m := bn) (t := k) (by rw [ha, hb]; rfl)
  have e2 := cmpV_is (s := sb) (r := sc) (n := bn) (m := cn) (t := k) (by rw [hb, hc]; rfl)
  have e3 := cmpV_is (s := sa) (r := sc) (n := an) (m := cn) (t := k) (by rw [ha, hc]; rfl)
  have e4 := cmpV_is (s := sb) (r := sa) (n := bn) (m := an) (t := k) (by rw [hb, ha]; rfl)
  rw [e1, e2, e3, e4]
  have num : ∀ (f : Int → Int), (f an = f bn → an = bn) → (k = 1 ∨ k = 2) → Ord3 (cmpI (f an) (f bn)) (cmpI (f bn) (f cn)) (cmpI (f an) (f cn)) (cmpI (f bn) (f an)) (an = bn ∧ sa = sb) := by
    intro f hf hk2
    refine ⟨cmpI_range _ _, ?_, cmpI_anti _ _, cmpI_trans _ _ _, ?_, ?_⟩
    · rw [cmpI_eq]
      exact ⟨fun h => ⟨hf h, by rw [fits_empty hk2 ha, fits_empty hk2 hb]⟩, fun h => by rw [h.1]⟩
    · intro h1 h2
      have := cmpI_trans (f cn) (f bn) (f an) (by rw [cmpI_anti (f bn)]; omega) (by rw [cmpI_anti (f an)]; omega)
      rw [cmpI_anti (f an)] at this; omega
    · intro h; rw [(cmpI_eq _ _).1 h]
  rcases hk with rfl | rfl | rfl
  · simp only [if_true]; exact num id id (.inl rfl)
  · simp only [show ¬ ((2 : Int) = 1) by decide, if_false, if_true]
    exact num (fun n => IntKind.u64.wrap n) (by intro h; simp only [IntKind.wrap_u64] at h; omega) (.inr rfl)
  · simp only [show ¬ ((3 : Int) = 1) by decide, show ¬ ((3 : Int) = 2) by decide, if_false, cmp_nums]
    have n0 : ∀ {n : Int} {s : ByteArray}, fitsB 3 n s = true → n = 0 := by intro n s h; simp [fitsB] at h; exact h.1
    refine ⟨cmpL_range _ _, ?_, cmpL_anti _ _, cmpL_trans _ _ _, ?_, ?_⟩
    · rw [cmpL_eq]
      exact ⟨fun h => ⟨by rw [n0 ha, n0 hb], nums_inj h⟩, fun h => by rw [h.2]⟩
    · intro h1 h2
      have := cmpL_trans (nums sc) (nums sb) (nums sa) (by rw [cmpL_anti (nums sb)]; omega) (by rw [cmpL_anti (nums sa)]; omega)
      rw [cmpL_anti (nums sa)] at this; omega
    · intro h; rw [(cmpL_eq _ _).1 h]
end Go.Proofs.YtbfihajgjbpmaaaGreat
/- The order of values is one, as the order of rows wants it. -/
namespace Go.Proofs.YtbfihajgjbpmaaaGreat
set_option linter.unusedVariables false
set_option maxRecDepth 4000

/-- a value of a type -/
def okV (t : Int) (v : Int × ByteArray) : Prop := (t = 1 ∨ t = 2 ∨ t = 3) ∧ fitsB t v.1 v.2 = true ∧ (-9223372036854775808 ≤ v.1 ∧ v.1 ≤ 9223372036854775807)
/-- the order of two values of a type -/
def cV (t : Int) (a b : Int × ByteArray) : Int := cmpV t a.1 a.2 b.1 b.2
theorem cV_ord : OrdC okV cV where
  anti := fun t a b ha hb => (cmpV_all ha.1 ha.2.1 hb.2.1 hb.2.1 ha.2.2 hb.2.2).anti
  down := fun t a b d ha hb hd => (cmpV_all ha.1 ha.2.1 hb.2.1 hd.2.1 ha.2.2 hb.2.2).down
  zero := fun t a b d ha hb hd => (cmpV_all ha.1 ha.2.1 hb.2.1 hd.2.1 ha.2.2 hb.2.2).zero
/-- the order of two rows, by their first columns -/
def cR (ts : List Int) (a b : List (Int × ByteArray)) : Int := cmpRow cV ts a b
end Go.Proofs.YtbfihajgjbpmaaaGreat
