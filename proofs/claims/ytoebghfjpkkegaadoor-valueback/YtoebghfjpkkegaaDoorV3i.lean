/- What the library's readers of numbers give; the variables that their errors are made with. -/
import Derived.Test.YtoebghfjpkkegaaDoorV3h
namespace Go.Proofs.YtoebghfjpkkegaaDoor
open Go.ChangeShapes Go.WideShapes Go.ChangeAt Go.RowKit
set_option linter.unusedVariables false

/-- a variable that holds an error -/
def EV (w : World) (n : String) : Prop := ∃ tp p, w.var? Tryd.prog n = some #[.iface tp p]
theorem EV.below {w w' : World} {n : String} (h : EV w n) (hb : Below w.heap.size w w') : EV w' n := by
  obtain ⟨tp, p, hv⟩ := h
  cases hg : Tryd.prog.globalNamed n with
  | none => simp [World.var?, hg] at hv
  | some g => exact ⟨tp, p, Joins.var_stays hg hv hb (Nat.le_refl _)⟩
/-- all that the library reads -/
def Env (w : World) : Prop := Tab w ∧ EV w "strconv.ErrSyntax" ∧ EV w "strconv.ErrRange"
theorem Env.below {w w' : World} (h : Env w) (hb : Below w.heap.size w w') : Env w' := ⟨h.1.below hb, h.2.1.below hb, h.2.2.below hb⟩
theorem Env.alloc {w : World} (h : Env w) (o : Obj) : Env (w.alloc o) := h.below (Joins.below_alloc1 w o)
set_option maxHeartbeats 1000000 in
theorem pu16 (t : ByteArray) (ht : t.size = 2) (w : World) (hE : Env w) :
    Calls Tryd.prog 38 #[.string t, .int .i64 16, .int .i64 8] w fun e w' => Below w.heap.size w w' ∧
      ((hv ((nums t).getD 0 0) < 16 ∧ hv ((nums t).getD 1 0) < 16 ∧ e = .returned (.tuple #[.int .u64 (hv ((nums t).getD 0 0) * 16 + hv ((nums t).getD 1 0)), .nilIface])) ∨
       ((16 ≤ hv ((nums t).getD 0 0) ∨ 16 ≤ hv ((nums t).getD 1 0)) ∧ ∃ N, e = .returned (.tuple #[.int .u64 0, .iface 75 (.pointer (some ⟨N, 0, none⟩))]))) := by
  go_enter Tryd.func38, Tryd.ntmps38
  go_wp2_with fail
  refine (ip16 t ht _).mono ?_
  rintro e w1 ⟨hb1, (⟨h1, h2, rfl⟩ | ⟨h1, rfl⟩)⟩
  · have HH := Lib.hid (And.intro h1 h2)
    clear h1 h2
    go_wp2_with fail
    go_ret2
    exact ⟨hb1, .inl ⟨HH.out.1, HH.out.2, rfl⟩⟩
  · have HH := Lib.hid h1
    clear h1
    have hE1 := hE.below hb1
    obtain ⟨tp, p, hvar⟩ := hE1.2.1
    have hv := World.var?_cell (show Tryd.prog.globalNamed "strconv.ErrSyntax" = some (Go.Proofs.Tryd.laysC245_ren.g 15) by kernel_rfl) hvar 0
    have hv2 : w1.cell? ⟨Go.Proofs.Tryd.laysC245_ren.g 15, 0, none⟩ = some (.iface tp p) := by simpa using hv
    clear hv
    have HV := Lib.hid hv2
    clear hv2
    go_wp2_with fail
    refine (Go.Proofs.Tryd.strconv_toError_syntax _ t 16 8 (.iface tp p) _ (by omega) HV.out (.inr ⟨_, _, rfl⟩)).mono ?_
    rintro e w2 ⟨N, rfl, -, -, hb2⟩
    go_wp2_with fail
    go_ret2
    exact ⟨Below.then hb1 hb2, .inr ⟨HH.out, N, rfl⟩⟩
set_option maxHeartbeats 1000000 in
theorem pint (s : ByteArray) (hs : s.size ≤ 200) (w : World) (hE : Env w) :
    Calls Tryd.prog 37 #[.string s, .int .i64 10, .int .i64 64] w fun e w' => Below w.heap.size w w' ∧
      ((∃ v, Lib.parseIntB 64 s.data.toList = .ok v ∧ e = .returned (.tuple #[.int .i64 v, .nilIface])) ∨
       ((∀ v, Lib.parseIntB 64 s.data.toList ≠ .ok v) ∧ ∃ v N, e = .returned (.tuple #[.int .i64 v, .iface 75 (.pointer (some ⟨N, 0, none⟩))]))) := by
  rcases h : Lib.parseIntB 64 s.data.toList with v | _ | _
  · skip
    refine (Go.Proofs.Tryd.strconv_ParseInt_10_at64_ok s (by omega) v h w).mono ?_
    rintro e w1 ⟨rfl, (rfl | ⟨t, rfl⟩)⟩
    · exact ⟨Below.refl _ _, .inl ⟨v, rfl, rfl⟩⟩
    · exact ⟨Joins.below_bytesWorld _ _ _ _ (Nat.le_refl _), .inl ⟨v, rfl, rfl⟩⟩
  · obtain ⟨tp, p, hvar⟩ := hE.2.1
    refine (Any.strconv_ParseInt_10_at64_syntax_var Go.Proofs.Tryd.laysC174 s (by omega) h tp p w hvar).mono ?_
    rintro e w1 ⟨N, rfl, -, -, hb⟩
    exact ⟨hb, .inr ⟨fun v hv => (nomatch hv), _, N, rfl⟩⟩
  · obtain ⟨tp, p, hvar⟩ := hE.2.2
    refine (Any.strconv_ParseInt_10_at64_range_var Go.Proofs.Tryd.laysC174 s (by omega) h tp p w hvar).mono ?_
    rintro e w1 ⟨N, rfl, -, -, hb⟩
    exact ⟨hb, .inr ⟨fun v hv => (nomatch hv), _, N, rfl⟩⟩
set_option maxHeartbeats 1000000 in
theorem puint (s : ByteArray) (hs : s.size ≤ 200) (w : World) (hE : Env w) :
    Calls Tryd.prog 38 #[.string s, .int .i64 10, .int .i64 64] w fun e w' => Below w.heap.size w w' ∧
      ((∃ v, Lib.parseUintB 64 s.data.toList = .ok v ∧ e = .returned (.tuple #[.int .u64 (v : Int), .nilIface])) ∨
       ((∀ v, Lib.parseUintB 64 s.data.toList ≠ .ok v) ∧ ∃ (v : Int) (N : Nat), e = .returned (.tuple #[.int .u64 v, .iface 75 (.pointer (some ⟨N, 0, none⟩))]))) := by
  rcases h : Lib.parseUintB 64 s.data.toList with v | _ | _
  · skip
    refine (Go.Proofs.Tryd.strconv_ParseUint_10_at64_ok s (by omega) v h w).mono ?_
    rintro e w1 ⟨rfl, (rfl | rfl)⟩
    · exact ⟨Below.refl _ _, .inl ⟨v, rfl, rfl⟩⟩
    · exact ⟨Joins.below_bytesWorld _ _ _ _ (Nat.le_refl _), .inl ⟨v, rfl, rfl⟩⟩
  · obtain ⟨tp, p, hvar⟩ := hE.2.1
    refine (Any.strconv_ParseUint_10_at64_syntax_var Go.Proofs.Tryd.laysPu14 s (by omega) h tp p w hvar).mono ?_
    rintro e w1 ⟨N, rfl, -, -, hb⟩
    exact ⟨hb, .inr ⟨fun v hv => (nomatch hv), _, N, rfl⟩⟩
  · obtain ⟨tp, p, hvar⟩ := hE.2.2
    refine (Any.strconv_ParseUint_10_at64_range_var Go.Proofs.Tryd.laysPu14 s (by omega) h tp p w hvar).mono ?_
    rintro e w1 ⟨N, rfl, -, -, hb⟩
    exact ⟨hb, .inr ⟨fun v hv => (nomatch hv), _, N, rfl⟩⟩

/-- digits are read again -/
theorem parseM_digits (M : Nat) (hM : M < 18446744073709551616) : ∀ (n u acc : Nat) (r : List UInt8), u < n → (∀ x, acc = 0 → x = 0 → True) → acc = 0 → u ≤ M →
    Lib.parseUintM M acc (Lib.decDigits u ++ r) = Lib.parseUintM M u r
  | 0, u, acc, r, h, _, _, _ => by omega
  | n + 1, u, acc, r, h, _, h0, hu => by
    subst h0
    by_cases hx : u < 10
    · rw [Lib.decDigits, dif_pos hx]
      have e : (UInt8.ofNat (48 + u)).toNat = 48 + u := by rw [UInt8.toNat_ofNat']; omega
      simp only [List.cons_append, List.nil_append, Lib.parseUintM, e]
      rw [if_pos (by omega), if_neg (by omega), if_neg (by omega)]
      congr 1; omega
    · rw [Lib.decDigits, dif_neg hx, List.append_assoc, parseM_digits M hM n (u / 10) 0 _ (by omega) (fun _ _ _ => trivial) rfl (by omega)]
      have e : (UInt8.ofNat (48 + u % 10)).toNat = 48 + u % 10 := by rw [UInt8.toNat_ofNat']; omega
      simp only [List.cons_append, List.nil_append, Lib.parseUintM, e]
      rw [if_pos (by omega), if_neg (by omega), if_neg (by omega)]
      congr 1; omega
theorem parseU_dec {u : Nat} (hu : u < 18446744073709551616) : Lib.parseUintB 64 (Lib.decDigits u) = .ok u := by
  have hne : Lib.decDigits u ≠ [] := fun h => by
    have hl : (Lib.decDigits u).length = (digits u).length := by rw [dec_digits _ u (Nat.lt_succ_self _), List.length_map]
    rw [h] at hl
    have := digits_pos u
    simp at hl; omega
  rw [Lib.parseUintB, if_neg hne]
  have := parseM_digits (2 ^ 64 - 1) (by omega) (u + 1) u 0 [] (by omega) (fun _ _ _ => trivial) rfl (by omega)
  rw [List.append_nil] at this
  rw [this]; rfl
theorem dec_first (u : Nat) : ∃ c r, Lib.decDigits u = c :: r ∧ 48 ≤ c.toNat ∧ c.toNat ≤ 57 := by
  rw [dec_digits _ u (Nat.lt_succ_self _)]
  have h1 := digits_pos u
  have h2 := digits_bytes u
  match hd : digits u with
  | [] => rw [hd] at h1; simp at h1
  | z :: l =>
    have := h2 z (by rw [hd]; exact List.mem_cons_self ..)
    exact ⟨_, _, rfl, by rw [UInt8.toNat_ofNat']; omega, by rw [UInt8.toNat_ofNat']; omega⟩
theorem parseI_itoa {n : Int} (h0 : -9223372036854775808 ≤ n) (h1 : n ≤ 9223372036854775807) : Lib.parseIntB 64 (Lib.itoa n) = .ok n := by
  unfold Lib.itoa
  split
  · rename_i hn
    have hp := parseU_dec (u := n.natAbs) (by omega)
    simp only [Lib.parseIntB]
    rw [if_pos (by decide), hp]
    simp only []
    rw [if_neg (fun h => h.1 rfl), if_neg (by omega), if_pos (by rfl)]
    congr 1; omega
  · rename_i hn
    obtain ⟨c, r, hc, hc1, hc2⟩ := dec_first n.toNat
    have hp := parseU_dec (u := n.toNat) (by omega)
    rw [hc] at hp ⊢
    simp only [Lib.parseIntB]
    rw [if_neg (by omega), hp]
    simp only []
    rw [if_neg (by omega), if_neg (by omega), if_neg (by omega)]
    congr 1; omega
end Go.Proofs.YtoebghfjpkkegaaDoor
