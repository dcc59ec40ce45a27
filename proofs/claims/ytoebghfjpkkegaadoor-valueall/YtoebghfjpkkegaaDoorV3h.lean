/- Two hexadecimal digits, as the library reads them. -/
import Derived.Test.YtoebghfjpkkegaaDoorV3d
import Derived.Test.YtoebghfjpkkegaaDoorV3u
import Derived.Lib.ConvBytes
import Derived.Lib.ParseIntBMem
import Derived.Laws.Closers25
import Derived.Laws.Closers25b
namespace Go.Proofs.YtoebghfjpkkegaaDoor
open Go.ChangeShapes Go.WideShapes Go.ChangeAt Go.RowKit
set_option linter.unusedVariables false

/-- a letter, made small -/
def lo (c : Int) : Int := bits .or .u8 c 32
/-- the value of a hexadecimal digit, as the library has it; 16 and more: it is none -/
def hv (c : Int) : Int := if 48 ≤ c ∧ c ≤ 57 then c - 48 else if 97 ≤ lo c ∧ lo c ≤ 122 then lo c - 87 else 99
/-- the first digits -/
def hvs (a b : Int) : Nat → Int
  | 0 => 0
  | 1 => hv a
  | _ => hv a * 16 + hv b
theorem hv_digit {c : Int} (h : 48 ≤ c ∧ c ≤ 57) : hv c = c - 48 := by rw [hv, if_pos h]
theorem hv_letter {c : Int} (h : ¬ (48 ≤ c ∧ c ≤ 57)) (h2 : 97 ≤ lo c ∧ lo c ≤ 122) : hv c = lo c - 87 := by rw [hv, if_neg h, if_pos h2]
theorem hv_none {c : Int} (h : ¬ (48 ≤ c ∧ c ≤ 57)) (h2 : ¬ (97 ≤ lo c ∧ lo c ≤ 122)) : hv c = 99 := by rw [hv, if_neg h, if_neg h2]
theorem lo_lo (c : Int) : 0 ≤ lo c ∧ lo c ≤ 255 := ⟨bits_lo_u8 .or c 32, bits_hi_u8 .or c 32⟩
theorem hv_pos (c : Int) : 0 ≤ hv c := by unfold hv; split; · omega
                                          · split <;> omega

set_option maxHeartbeats 32000000 in
set_option maxRecDepth 100000 in
theorem ip16 (t : ByteArray) (ht : t.size = 2) (w : World) :
    Calls Tryd.prog 49 #[.string t, .int .i64 16, .int .i64 8] w fun e w' => Below w.heap.size w w' ∧
      ((hv ((nums t).getD 0 0) < 16 ∧ hv ((nums t).getD 1 0) < 16 ∧ e = .returned (.tuple #[.int .u64 (hv ((nums t).getD 0 0) * 16 + hv ((nums t).getD 1 0)), .nilIface])) ∨
       ((16 ≤ hv ((nums t).getD 0 0) ∨ 16 ≤ hv ((nums t).getD 1 0)) ∧ e = .returned (.tuple #[.int .u64 0, .iface 74 (.int .i64 2)]))) := by
  have hemp : t.toList.isEmpty = false := by
    rw [← decide_eq_emptyBytes]
    exact decide_eq_false (fun h => by rw [h] at ht; simp at ht)
  have hcv := Lib.run_convert_string_bytes (P := Tryd.prog) w 9 62 5 t (u := .string) Tryd.underlying9 Tryd.underlying62 Tryd.underlying5
  have hg : ∀ j, j < t.size → (nums t).getD j 0 = ((t.data.toList.getD j 0).toNat : Int) := fun j hj => by
    have h1 : j < t.data.toList.length := by rw [Array.length_toList]; exact hj
    rw [nums, List.getD_eq_getElem?_getD, List.getD_eq_getElem?_getD, List.getElem?_map, List.getElem?_eq_getElem h1]; rfl
  have hB0 : (Lib.bytesWorld w 5 t).cell? ⟨w.heap.size, 0, none⟩ = some (.int .u8 ((nums t).getD 0 0)) := by
    rw [hg 0 (by omega)]; exact Lib.bytesWorld_cell w 5 t 0 (by omega)
  have hB1 : (Lib.bytesWorld w 5 t).cell? ⟨w.heap.size, 1, none⟩ = some (.int .u8 ((nums t).getD 1 0)) := by
    rw [hg 1 (by omega)]; exact Lib.bytesWorld_cell w 5 t 1 (by omega)
  have hbw : Below w.heap.size w (Lib.bytesWorld w 5 t) := Joins.below_bytesWorld _ _ _ _ (Nat.le_refl _)
  have hm0 := nums_bytes t ((nums t).getD 0 0) (by rw [List.getD_eq_getElem?_getD, List.getElem?_eq_getElem (by rw [nums_len]; omega)]; simp)
  have hm1 := nums_bytes t ((nums t).getD 1 0) (by rw [List.getD_eq_getElem?_getD, List.getElem?_eq_getElem (by rw [nums_len]; omega)]; simp)
  clear hg
  generalize (nums t).getD 0 0 = c0 at *
  generalize (nums t).getD 1 0 = c1 at *
  obtain ⟨W1, hW1⟩ : ∃ W1, W1 = Lib.bytesWorld w 5 t := ⟨_, rfl⟩
  rw [← hW1] at hcv hB0 hB1 hbw
  clear hW1
  have hmv : IntKind.u64.wrap (IntKind.u64.wrap 256 - 1) = 255 := by
    rw [IntKind.wrap_u64, IntKind.wrap_u64]
    decide
  have hfail : ∀ (e : Ending), (16 ≤ hv c0 ∨ 16 ≤ hv c1) → e = .returned (.tuple #[.int .u64 0, .iface 74 (.int .i64 2)]) →
      Below w.heap.size w W1 ∧ ((hv c0 < 16 ∧ hv c1 < 16 ∧ e = .returned (.tuple #[.int .u64 (hv c0 * 16 + hv c1), .nilIface])) ∨ ((16 ≤ hv c0 ∨ 16 ≤ hv c1) ∧ e = .returned (.tuple #[.int .u64 0, .iface 74 (.int .i64 2)]))) :=
    fun e h he => ⟨hbw, .inr ⟨h, he⟩⟩
  have hgood : ∀ (e : Ending), hv c0 < 16 → hv c1 < 16 → e = .returned (.tuple #[.int .u64 (hv c0 * 16 + hv c1), .nilIface]) →
      Below w.heap.size w W1 ∧ ((hv c0 < 16 ∧ hv c1 < 16 ∧ e = .returned (.tuple #[.int .u64 (hv c0 * 16 + hv c1), .nilIface])) ∨ ((16 ≤ hv c0 ∨ 16 ≤ hv c1) ∧ e = .returned (.tuple #[.int .u64 0, .iface 74 (.int .i64 2)]))) :=
    fun e h h2 he => ⟨hbw, .inl ⟨h, h2, he⟩⟩
  have HF := Lib.hid hfail
  have HG := Lib.hid hgood
  clear hfail hgood
  go_enter Tryd.func49, Tryd.ntmps49
  go_wp2
  go_loop [12, 13, 101] (fun vu vn vi => ∃ (k : Nat) (a : Int), vu = .bool false ∧ vn = .int .u64 a ∧ vi = .int .i64 k ∧ k ≤ 2 ∧ 0 ≤ a ∧ (k < 2 → a ≤ 15) ∧ (k = 0 → a = 0) ∧ Hid (a = hvs c0 c1 k ∧ (0 < k → hv c0 < 16) ∧ (1 < k → hv c1 < 16)))
    (fun _ _ vi => 2 - (intOf vi).toNat)
  case atStart => exact ⟨0, 0, rfl, rfl, rfl, by omega, by omega, by omega, by omega, rfl, by omega, by omega⟩
  case round =>
    obtain ⟨k, a, rfl, rfl, rfl, hk, ha0, ha15, hz0, hh⟩ := hrel
    by_cases hk2 : k < 2
    · obtain ⟨c, hc, hcb, HC⟩ : ∃ c, W1.cell? ⟨w.heap.size, k, none⟩ = some (.int .u8 c) ∧ (0 ≤ c ∧ c ≤ 255) ∧ Hid (c = if k = 0 then c0 else c1) := by
        rcases (by omega : k = 0 ∨ k = 1) with rfl | rfl
        · exact ⟨c0, hB0, hm0, Lib.hid rfl⟩
        · exact ⟨c1, hB1, hm1, Lib.hid rfl⟩
      have ha1 := ha15 hk2
      have hstep : Hid (hv c < 16 → a * 16 + hv c = hvs c0 c1 (k + 1) ∧ (0 < k + 1 → hv c0 < 16) ∧ (1 < k + 1 → hv c1 < 16)) := Lib.hid (fun h => by
        obtain ⟨h1, h2, h3⟩ := hh.out
        have h4 := HC.out
        rcases (by omega : k = 0 ∨ k = 1) with rfl | rfl
        · rw [if_pos rfl] at h4; subst h4; rw [h1]; exact ⟨by simp [hvs], fun _ => h, by omega⟩
        · rw [if_neg (by omega)] at h4; subst h4; rw [h1]; exact ⟨by simp [hvs], fun _ => h2 (by omega), fun _ => h⟩)
      have hbad : Hid (16 ≤ hv c → (16 ≤ hv c0 ∨ 16 ≤ hv c1)) := Lib.hid (fun h => by
        have h4 := HC.out
        split at h4 <;> (subst h4; simp [h]))
      clear hB0 hB1 hm0 hm1 hh HC ha15 hemp hcv
      by_cases hdig : 48 ≤ c ∧ c ≤ 57
      · have hd := hv_digit hdig
        rw [hd] at hstep hbad
        obtain ⟨hd0, hd1⟩ := hdig
        clear hd hbad
        go_wp2
        go_round
        case rel => exact ⟨k + 1, a * 16 + (c - 48), rfl, (by first | rfl | (congr 1; omega)), (by first | rfl | (congr 1; omega)), by omega, by omega, by omega, by omega, Lib.hid (hstep.out (by omega))⟩
        case measure => (simp [intOf]; omega)
      · by_cases h95 : c = 95
        · subst h95
          rw [show hv 95 = 99 by decide] at hbad
          clear hstep hz0
          have hu0 := bits_lo_u8 .or 95 32
          have hu1 := bits_hi_u8 .or 95 32
          go_wp2_with (go_at_call 59; refine (Go.Proofs.Tryd.internal_strconv_lower 95 W1).mono ?_; rintro e W1 ⟨rfl, rfl⟩)
          all_goals go_ret2
          all_goals exact HF.out _ (hbad.out (by omega)) rfl
        have h95' : (c == 95) = false := by simp [h95]
        have hl0 := (lo_lo c).1
        have hl1 := (lo_lo c).2
        have hlow := Go.Proofs.Tryd.internal_strconv_lower c W1
        rw [show bits .or .u8 c 32 = lo c from rfl] at hlow
        by_cases hlet : 97 ≤ lo c ∧ lo c ≤ 122
        · have hd := hv_letter hdig hlet
          rw [hd] at hstep hbad
          obtain ⟨hd0, hd1⟩ := hlet
          generalize lo c = l at *
          clear hd
          by_cases hsm : l < 103
          · have hz := hz0
            clear hbad
            go_wp2_with (go_at_call 59; refine hlow.mono ?_; rintro e W1 ⟨rfl, rfl⟩)
            all_goals go_round
            all_goals first
              | exact ⟨k + 1, a * 16 + (l - 87), rfl, (by first | rfl | (congr 1; omega)), (by first | rfl | (congr 1; omega)), by omega, by omega, by omega, by omega, Lib.hid (hstep.out (by omega))⟩
              | (simp [intOf]; omega)
          · clear hstep hz0
            go_wp2_with (go_at_call 59; refine hlow.mono ?_; rintro e W1 ⟨rfl, rfl⟩)
            all_goals go_ret2
            all_goals exact HF.out _ (hbad.out (by omega)) rfl
        · have hd := hv_none hdig hlet
          rw [hd] at hbad
          generalize lo c = l at *
          clear hd hstep hz0
          go_wp2_with (go_at_call 59; refine hlow.mono ?_; rintro e W1 ⟨rfl, rfl⟩)
          all_goals go_ret2
          all_goals exact HF.out _ (hbad.out (by omega)) rfl
    · obtain rfl : k = 2 := by omega
      obtain ⟨h1, h2, h3⟩ := hh.out
      have HA : Hid (a = hv c0 * 16 + hv c1) := Lib.hid h1
      have HR := Lib.hid (And.intro (h2 (by omega)) (h3 (by omega)))
      clear hh h1 h2 h3 hB0 hB1 hm0 hm1 hemp hcv ha15 hz0
      go_wp2
      go_ret2
      exact HG.out _ HR.out.1 HR.out.2 (by rw [← HA.out]; rfl)
end Go.Proofs.YtoebghfjpkkegaaDoor
