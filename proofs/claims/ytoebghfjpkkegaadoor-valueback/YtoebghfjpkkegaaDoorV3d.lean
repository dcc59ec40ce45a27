/- How a value is written: Text; the statements' own helpers shown, kind, fit, some, short. -/
import Derived.Test.YtoebghfjpkkegaaDoorV3c
namespace Go.Proofs.YtoebghfjpkkegaaDoor
open Go.ChangeShapes Go.WideShapes Go.ChangeAt Go.RowKit
set_option linter.unusedVariables false

/-- the table of the library's that numbers are written with -/
abbrev Tab (w : World) : Prop := Lib.TabIs Tryd.prog w tabName .u64 Lib.pow10Tab
theorem Tab.below {w w' : World} (h : Tab w) (hb : Below w.heap.size w w') : Tab w' :=
  Joins.tab_stays (show Tryd.prog.globalNamed tabName = some (Go.Proofs.Tryd.laysM173_ren.g 17) by kernel_rfl) h hb (Nat.le_refl _)
theorem Tab.alloc {w : World} (h : Tab w) (o : Obj) : Tab (w.alloc o) := Lib.tabIs_alloc h o
/-- how a value is written -/
def textL (t n : Int) (s : ByteArray) : List Int := if fitsB t n s = true then (if t = 1 then intS n else if t = 2 then digits (IntKind.u64.wrap n).toNat else textS (nums s)) else []
theorem textL_not {t n : Int} {s : ByteArray} (h : fitsB t n s = false) : textL t n s = [] := by simp [textL, h]
theorem textL_is {t n : Int} {s : ByteArray} (h : fitsB t n s = true) : textL t n s = (if t = 1 then intS n else if t = 2 then digits (IntKind.u64.wrap n).toNat else textS (nums s)) := by rw [textL, if_pos h]
theorem fits_size {n : Int} {s : ByteArray} (h : fitsB 3 n s = true) : s.size ≤ 60 := by
  simp [fitsB] at h; omega
theorem ret_str {a b : ByteArray} (h : a = b) : Ending.returned (.string a) = .returned (.string b) := by rw [h]
set_option maxHeartbeats 400000 in
theorem text_any (t n : Int) (s : ByteArray) (w : World) (h0 : -9223372036854775808 ≤ n) (h1 : n ≤ 9223372036854775807) (htab : Tab w) :
    Calls Tryd.prog 20 #[.int .i64 t, VV n s] w fun e w' => e = .returned (.string (strOfNums (textL t n s))) ∧ Below w.heap.size w w' := by
  go_enter Tryd.func20, Tryd.ntmps20
  go_wp2_with fail
  refine (fits_any t n s _).mono ?_
  rintro e w1 ⟨rfl, hb⟩
  have hx := (Bx.new w n s 23).below hb
  have ht1 := (htab.alloc _).below hb
  have hb' := after1 hb
  clear hb
  obtain ⟨c0, c1⟩ := hx
  cases hf : fitsB t n s
  · have hn := Lib.hid (textL_not hf)
    clear hf
    go_wp2_with fail
    go_ret
    exact ⟨ret_str (by rw [hn.out]; rfl), hb'⟩
  · have hn := Lib.hid (textL_is hf)
    have hf' := Lib.hid hf
    clear hf
    by_cases h1 : t = 1
    · subst h1
      go_wp2_with (go_at_call 33; refine (fmtint_any n h0 (by assumption) _ ht1).mono ?_; rintro e w2 ⟨rfl, k, os, rfl⟩)
      go_ret
      exact ⟨ret_str (by rw [hn.out, itoa_str]; simp), Below.then hb' (grow_below _ _ _)⟩
    · by_cases h2 : t = 2
      · subst h2
        obtain ⟨u, hu, hul⟩ : ∃ u : Nat, IntKind.u64.wrap n = (u : Int) ∧ u < 18446744073709551616 := ⟨(IntKind.u64.wrap n).toNat, by rw [IntKind.wrap_u64]; omega, by rw [IntKind.wrap_u64]; omega⟩
        have hq := Lib.hid hu
        go_wp2_with (go_at_call 34; refine (fmtuint_any u hul _ ht1).mono ?_; rintro e w2 ⟨rfl, hb2⟩)
        go_ret
        exact ⟨ret_str (by rw [hn.out, dec_str, hq.out]; simp), Below.then hb' hb2⟩
      · have ht3 : t = 3 := by have := hf'.out; unfold fitsB at this; simp [h1, h2] at this; exact this.1
        subst ht3
        have hs := fits_size hf'.out
        go_wp2_with (go_at_call 35; refine (quoted_any s hs _).mono ?_; rintro e w2 ⟨rfl, hb2⟩)
        go_ret
        exact ⟨ret_str (by rw [hn.out]; simp), Below.then hb' hb2⟩
end Go.Proofs.YtoebghfjpkkegaaDoor
