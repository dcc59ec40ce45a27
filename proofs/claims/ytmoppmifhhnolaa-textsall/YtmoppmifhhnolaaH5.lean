/- Bytes: what they are, cut by a letter; a text behind a text. -/
import Derived.Test.YtmoppmifhhnolaaH1
namespace Go.Proofs.Ytmoppmifhhnolaa
open Go.ChangeShapes Go.WideShapes Go.ChangeAt Go.RowKit
set_option linter.unusedVariables false

theorem BV.opened {w : World} {a : Option Addr} {n : Nat} {zs : List Int} (h : BV w a n zs) (hn : 1 ≤ n) : ∃ b off, a = some ⟨b, off, none⟩ ∧ ∀ i, i < n → w.cell? ⟨b, off + i, none⟩ = some (.int .u8 (zs.getD i 0)) := by
  rcases h.2.2 with h3 | h3
  · omega
  · exact h3
abbrev Byts (l : List Int) : Prop := ∀ z ∈ l, 0 ≤ z ∧ z ≤ 255
theorem byts_at {l : List Int} (h : Byts l) {j : Nat} (hj : j < l.length) : 0 ≤ l.getD j 0 ∧ l.getD j 0 ≤ 255 := by
  have := h (l[j]) (List.getElem_mem hj)
  simpa [List.getD, hj] using this
theorem str_add (a b : List Int) : strOfNums a ++ strOfNums b = strOfNums (a ++ b) := by
  apply ByteArray.ext
  rw [ByteArray.data_append]
  apply Array.ext'
  rw [Array.toList_append, strOfNums_data, strOfNums_data, strOfNums_data, List.map_append]
/-- the bytes from some one on, by a letter -/
theorem BV.slice_lo {w : World} {a : Option Addr} {n : Nat} {zs : List Int} (h : BV w a n zs) (k c : Nat) (hk : k ≤ n) (hc : n ≤ c) :
    ∃ a', (∀ wx, (Instr.slice 23 (.slice a n c) (some (.int .i64 (k : Int))) none none).run Try.prog wx = .ok (.slice a' (n - k) (c - k)) wx) ∧ BV w a' (n - k) (zs.drop k) := by
  refine ⟨_, fun wx => ?_, h.cutA k c hk hc⟩
  rw [run_slice_l wx 23 a n c underB .i64 (k : Int) (by omega) (by omega), sizeB]
  simp only [Result.andThen, sliced, Nat.mul_one, Int.toNat_natCast]
/-- the bytes up to some one, by a letter -/
theorem BV.slice_hi {w : World} {a : Option Addr} {n : Nat} {zs : List Int} (h : BV w a n zs) (k c : Nat) (hk : k ≤ n) (hc : n ≤ c) :
    ∃ a', (∀ wx, (Instr.slice 23 (.slice a n c) none (some (.int .i64 (k : Int))) none).run Try.prog wx = .ok (.slice a' k c) wx) ∧ BV w a' k (zs.take k) := by
  exact ⟨a, fun wx => by simpa using Go.Proofs.Ytmoppmifhhnolaa.slice_hi a n c (k : Int) (by omega) (by omega) wx, h.take k hk⟩
/-- the bytes from some one up to another one -/
theorem BV.slice_lh {w : World} {a : Option Addr} {n : Nat} {zs : List Int} (h : BV w a n zs) (k m c : Nat) (hk : k ≤ m) (hm : m ≤ n) (hc : n ≤ c) :
    ∃ a', (∀ wx, (Instr.slice 23 (.slice a n c) (some (.int .i64 (k : Int))) (some (.int .i64 (m : Int))) none).run Try.prog wx = .ok (.slice a' (m - k) (c - k)) wx) ∧ BV w a' (m - k) ((zs.drop k).take (m - k)) := by
  refine ⟨_, fun wx => ?_, (h.cutA k c (by omega) hc).take (m - k) (by omega)⟩
  rw [run_slice_lh wx 23 a n c underB .i64 .i64 (k : Int) (m : Int) (by omega) (by omega) (by omega), sizeB]
  simp only [Result.andThen, sliced, Nat.mul_one, Int.toNat_natCast]
end Go.Proofs.Ytmoppmifhhnolaa
