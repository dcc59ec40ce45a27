/- The bytes of a text as numbers: plain facts. -/
import Derived.Test.YtmoppmifhhnolaaR
namespace Go.Proofs.Ytmoppmifhhnolaa
open Go.ChangeShapes Go.WideShapes Go.ChangeAt Go.RowKit
set_option linter.unusedVariables false

/-- the bytes of a text -/
def nums (s : ByteArray) : List Int := s.data.toList.map fun b => (b.toNat : Int)
theorem nums_bytes (s : ByteArray) : ∀ z ∈ nums s, 0 ≤ z ∧ z ≤ 255 := by
  intro z hz
  obtain ⟨b, _, rfl⟩ := List.mem_map.1 hz
  have := b.toNat_lt
  omega
theorem nums_len (s : ByteArray) : (nums s).length = s.size := by rw [nums, List.length_map, Array.length_toList]; rfl
theorem str_nums (s : ByteArray) : strOfNums (nums s) = s := by
  have h : (strOfNums (nums s)).data.toList = s.data.toList := by
    rw [strOfNums_data, nums, List.map_map]
    exact (List.map_congr_left (fun b _ => by simp)).trans (List.map_id _)
  cases s
  generalize hq : strOfNums _ = q at h ⊢
  cases q
  simp only [ByteArray.mk.injEq]
  exact Array.ext' h
theorem nums_str {l : List Int} (h : ∀ z ∈ l, 0 ≤ z ∧ z ≤ 255) : nums (strOfNums l) = l := by
  rw [nums, strOfNums_data, List.map_map]
  refine (List.map_congr_left (fun z hz => ?_)).trans (List.map_id _)
  have := h z hz
  simp only [Function.comp, UInt8.toNat_ofNat', id]
  omega
theorem nums_inj {a b : ByteArray} (h : nums a = nums b) : a = b := by rw [← str_nums a, ← str_nums b, h]
end Go.Proofs.Ytmoppmifhhnolaa
