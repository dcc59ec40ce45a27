/- How values are written: strconv.FormatUint, quoted and Text, over this seat's translation. -/
import Derived.Test.YtoebghfjpkkegaaDoorV3a
import Derived.Shelf.Strconv.Itoa3
namespace Go.Proofs.YtoebghfjpkkegaaDoor
open Go.ChangeShapes Go.WideShapes Go.ChangeAt Go.RowKit Go.Sort Go.Lib
set_option linter.unusedVariables false

/-- the library's table that numbers are written with, by its name -/
abbrev tabName : String := ((Rows.valueAllRow.named.drop 0).headD "")
theorem holds_zero0 (w : World) (T : TypeId) (nd : Nat) (hs : nd ≤ 24) : Holds (fun (b : UInt8) => Value.int .u8 (b.toNat : Int)) (w.alloc (.cells Lib.zeros24 T)) w.heap.size 0 (Array.replicate nd (0 : UInt8)) := fun j hj => by
  have hj' : j < nd := by simpa using hj
  refine ⟨?_, World.frozen?_alloc_new _ _ _ _⟩
  rw [World.cell?_alloc_new, Lib.zeros24_at _ (by omega), getElem!_pos _ j hj]
  simp
theorem fin_pos0 (w : World) (o : Obj) (dk : Array UInt8) (k : Nat) : ∃ os, (putRow (fun (b : UInt8) => Value.int .u8 (b.toNat : Int)) (w.alloc o) w.heap.size 0 dk).drewN k = grow (w.drewN k) os := by
  rw [alloc_eq_grow]
  obtain ⟨os', _, e⟩ := putRow_grow_new (fun (b : UInt8) => Value.int .u8 (b.toNat : Int)) w #[o] w.heap.size 0 dk (Nat.le_refl _)
  exact ⟨os', by rw [e]; rfl⟩
theorem u24 : Tryd.prog.underlying 69 = some (.array 24 5) := by kernel_rfl
theorem len24 : Tryd.prog.arrayLen 69 = 24 := by kernel_rfl
theorem slice24 (b : Nat) (h : Int) (h0 : 0 ≤ h) (h1 : h ≤ 24) (W : World) : (Instr.sliceAt 69 (.pointer (some ⟨b, 0, none⟩)) none (some (.int .i64 h)) none).run Tryd.prog W = .ok (.slice (some ⟨b, 0, none⟩) h.toNat 24) W := by
  rw [run_sliceAt_array_h W 69 ⟨b, 0, none⟩ (by kernel_rfl) .i64 h h0 (by rw [len24]; omega), len24]
  go_simp

set_option maxHeartbeats 1600000 in
set_option maxRecDepth 100000 in
theorem ifmtuint (u : Nat) (hu : u < 18446744073709551616) (w : World) (htab : Lib.TabIs Tryd.prog w tabName .u64 Lib.pow10Tab) :
    Calls Tryd.prog 45 #[.int .u64 u, .int .i64 10] w fun e w' => e = .returned (.string ⟨(Lib.decDigits u).toArray⟩) ∧ ∃ k os, w' = grow (w.drewN k) os := by
  by_cases hs : u < 100
  · have hw : wrap64 (u : Int) = (u : Int) := by rw [wrap64]; omega
    go_enter Tryd.func45, Tryd.ntmps45
    go_wp2_with (go_at_call 51; refine (Go.Proofs.Tryd.internal_strconv_small u hs _).mono ?_; rintro e w' ⟨rfl, rfl⟩)
    go_ret
    exact ⟨rfl, 0, #[], by simp [World.drewN_zero]⟩
  · have hu1 : 1 ≤ u := by omega
    have hnd20 : Lib.nDigits u ≤ 20 := by have := Lib.numDigits_eq u hu1 hu; split at this <;> omega
    have hsl1 : ∀ W, (Instr.sliceAt 69 (.pointer (some ⟨w.heap.size, 0, none⟩)) none (some (.int .i64 (Lib.nDigits u : Int))) none).run Tryd.prog W = .ok (.slice (some ⟨w.heap.size, 0, none⟩) (Lib.nDigits u) 24) W := fun W => by
      rw [slice24 _ _ (by omega) (by omega)]; simp
    have hH0 := holds_zero0 w 69 (Lib.nDigits u) (by omega)
    have hfmt := Go.Proofs.Tryd.internal_strconv_formatBase10 w.heap.size 0 24 u (Array.replicate (Lib.nDigits u) 0) (w.alloc (.cells Lib.zeros24 69)) hH0 (by rw [Array.size_replicate]; exact Lib.lt_pow_nDigits u) hu (by rw [Array.size_replicate]; omega)
    rw [Array.size_replicate] at hfmt
    have HH0 := Lib.hid hH0
    clear hH0
    have hnd : Calls Tryd.prog 52 #[.int .u64 (u : Int)] (w.alloc (.cells Lib.zeros24 69)) fun e w' => e = .returned (.int .i64 (Lib.nDigits u : Int)) ∧ w' = w.alloc (.cells Lib.zeros24 69) :=
      Any.internal_strconv_numDigits Go.Proofs.Tryd.laysM284 u hu1 hu _ (Lib.tabIs_alloc htab _)
    go_enter Tryd.func45, Tryd.ntmps45
    go_wp2_with (first
      | (go_at_call 52; refine hnd.mono ?_; rintro e w' ⟨rfl, rfl⟩))
    refine hfmt.mono ?_
    rintro e w' ⟨rfl, k, v', dk, rfl, hF⟩
    have hcv : (convert 62 9 (.slice (some ⟨w.heap.size, 0, none⟩) (Lib.nDigits u) 24)).run Tryd.prog ((putRow (fun (b : UInt8) => Value.int .u8 (b.toNat : Int)) (w.alloc (.cells Lib.zeros24 69)) w.heap.size 0 dk).drewN k) = .ok (.string ⟨(Lib.decDigits u).toArray⟩) ((putRow (fun (b : UInt8) => Value.int .u8 (b.toNat : Int)) (w.alloc (.cells Lib.zeros24 69)) w.heap.size 0 dk).drewN k) := by
      have h := run_convert_bytes_back (P := Tryd.prog) ((putRow (fun (b : UInt8) => Value.int .u8 (b.toNat : Int)) (w.alloc (.cells Lib.zeros24 69)) w.heap.size 0 dk).drewN k) 62 9 5 ⟨w.heap.size, 0, none⟩ 24 (Lib.decDigits u) Tryd.underlying62 Tryd.underlying5 Tryd.underlying9 (fun j hj => by
        rw [Lib.row_is_numeral hF j hj, Lib.add_plain, World.cell?_drewN]
        exact cell?_putRow (fun (b : UInt8) => Value.int .u8 (b.toNat : Int)) _ w.heap.size 0 _ dk HH0.out (by rw [hF.size, Array.size_replicate]) j (by rw [hF.size]; rw [Lib.decDigits_length] at hj; exact hj))
      rw [Lib.decDigits_length] at h
      exact h
    go_wp2
    go_ret
    obtain ⟨os, eo⟩ := fin_pos0 w (.cells Lib.zeros24 69) dk k
    exact ⟨rfl, k, os, eo⟩
theorem grow_below (w : World) (k : Nat) (os : Array Obj) : Below w.heap.size w (grow (w.drewN k) os) :=
  ⟨rfl, rfl, rfl, by simp [grow, World.drewN], fun j hj => by simp [grow, World.drewN, Array.getElem?_append, hj]⟩
set_option maxHeartbeats 400000 in
theorem fmtuint_any (u : Nat) (hu : u < 18446744073709551616) (w : World) (htab : Lib.TabIs Tryd.prog w tabName .u64 Lib.pow10Tab) :
    Calls Tryd.prog 34 #[.int .u64 u, .int .i64 10] w fun e w' => e = .returned (.string ⟨(Lib.decDigits u).toArray⟩) ∧ Below w.heap.size w w' := by
  go_enter Tryd.func34, Tryd.ntmps34
  go_wp2_with (go_at_call 45; refine (ifmtuint u hu _ htab).mono ?_; rintro e w' ⟨rfl, k, os, rfl⟩)
  go_ret
  exact ⟨rfl, grow_below _ _ _⟩

theorem fmtint_any (n : Int) (h0 : -9223372036854775808 ≤ n) (h1 : n ≤ 9223372036854775807) (w : World) (htab : Lib.TabIs Tryd.prog w tabName .u64 Lib.pow10Tab) :
    Calls Tryd.prog 33 #[.int .i64 n, .int .i64 10] w fun e w' => e = .returned (.string ⟨(Lib.itoa n).toArray⟩) ∧ ∃ k os, w' = grow (w.drewN k) os :=
  Any.strconv_FormatInt_10 Go.Proofs.Tryd.laysM173 n h0 h1 w htab
/-- the bytes of a text -/
def nums (s : ByteArray) : List Int := s.data.toList.map fun b => (b.toNat : Int)
theorem nums_bytes (s : ByteArray) : ∀ z ∈ nums s, 0 ≤ z ∧ z ≤ 255 := by
  intro z hz
  obtain ⟨b, _, rfl⟩ := List.mem_map.1 hz
  have := b.toNat_lt
  omega
theorem nums_len (s : ByteArray) : (nums s).length = s.size := by rw [nums, List.length_map, Array.length_toList]; rfl
theorem str_nums (s : ByteArray) : strOfNums (nums s) = s := by
  have h : (strOfNums (nums s)).data.toList = s.data.toList := by
    rw [strOfNums_data, nums, List.map_map]
    exact (List.map_congr_left (fun b _ => by simp)).trans (List.map_id _)
  cases s
  generalize hq : strOfNums _ = q at h ⊢
  cases q
  simp only [ByteArray.mk.injEq]
  exact Array.ext' h
theorem nums_str {l : List Int} (h : ∀ z ∈ l, 0 ≤ z ∧ z ≤ 255) : nums (strOfNums l) = l := by
  rw [nums, strOfNums_data, List.map_map]
  refine (List.map_congr_left (fun z hz => ?_)).trans (List.map_id _)
  have := h z hz
  simp only [Function.comp, UInt8.toNat_ofNat', id]
  omega
theorem nums_inj {a b : ByteArray} (h : nums a = nums b) : a = b := by rw [← str_nums a, ← str_nums b, h]
theorem dec_digits : ∀ (n u : Nat), u < n → Lib.decDigits u = (digits u).map fun z => UInt8.ofNat z.toNat
  | 0, u, h => by omega
  | n + 1, u, h => by
    by_cases hu : u < 10
    · rw [Lib.decDigits, dif_pos hu, digits_small hu]
      simp only [List.map_cons, List.map_nil]
      congr 2
    · rw [Lib.decDigits, dif_neg hu, digits_big hu, dec_digits n (u / 10) (by omega), List.map_append]
      simp only [List.map_cons, List.map_nil]
      congr 3
theorem dec_str (u : Nat) : (⟨(Lib.decDigits u).toArray⟩ : ByteArray) = strOfNums (digits u) := by
  have h : (strOfNums (digits u)).data.toList = Lib.decDigits u := by rw [strOfNums_data, dec_digits _ u (Nat.lt_succ_self _)]
  rw [← h]
/-- how a number with a sign is written -/
def intS (n : Int) : List Int := if n < 0 then 45 :: digits n.natAbs else digits n.toNat
theorem itoa_str (n : Int) : (⟨(Lib.itoa n).toArray⟩ : ByteArray) = strOfNums (intS n) := by
  have h : (strOfNums (intS n)).data.toList = Lib.itoa n := by
    rw [strOfNums_data, Lib.itoa, intS]
    split
    · rw [List.map_cons, dec_digits _ _ (Nat.lt_succ_self _)]; rfl
    · rw [dec_digits _ _ (Nat.lt_succ_self _)]
  rw [← h]
end Go.Proofs.YtoebghfjpkkegaaDoor
