/- Texts that belong together, one behind the other: H8, H10, D8sa, R8i. -/
import Derived.Test.YtlagmjdldplblaaBase
import Derived.Lib.SmallJoins
import Derived.Test.YtlagmjdldplblaaDiskF
import Derived.Test.YtlagmjdldplblaaDiskA
import Derived.Test.YtlagmjdldplblaaDiskH
/- How the statements' arguments come in: a number and ints in one struct. -/
namespace Go.Proofs.Ytlagmjdldplblaa
open Go.ChangeShapes Go.WideShapes Go.ChangeAt Go.RowKit
set_option linter.unusedVariables false
set_option maxRecDepth 4000

section
variable {H : Type} {enc : TypeId × Value → H} {w : World} {base fuel : Nat} {spare : Nat → Bool} {held : Bool}
theorem int8_of {t : TypeId} (ht : Try.prog.underlying t = some (.int .i64)) {c : Value} {y : DataW H × List MemPlace} (h : DataW.trod enc Try.prog w base spare held fuel t [c] = some y) : ∃ z : Int, c = .int .i64 z ∧ -9223372036854775808 ≤ z ∧ z ≤ 9223372036854775807 := by
  obtain ⟨z, hz, _, wz⟩ := DataW.trod_int ht h
  have := bounds_i64 wz
  exact ⟨z, by simpa using hz, this.1, this.2⟩
theorem open_left {r : Reach} {b0 : Nat} {v : Value} {d : DataW H} {p : List MemPlace} (hv : Value.okWide Try.prog w r b0 63 v) (h : DataW.Trod enc Try.prog w base spare held 63 v d p) :
    ∃ (x : Int) (A : Option Addr) (n c : Nat) (ts : List Int), v = .agg #[.int .i64 x, .slice A n c] ∧ IV w A n ts ∧ n ≤ c ∧ (-9223372036854775808 ≤ x ∧ x ≤ 9223372036854775807) ∧ Rgs ts := by
  obtain ⟨v0, v1, y0, y1, f, rfl, -, -, h0, h1⟩ := Joins.open_agg2 Try.underlying63 (by kernel_rfl) (by kernel_rfl) hv h
  obtain ⟨x, rfl, hx⟩ := int8_of Try.underlying3 h0
  obtain ⟨A, n, c, ts, hc, q1, q2, q3, q4, q5, q6⟩ := open_intsS Try.underlying29 (by kernel_rfl) Try.underlying3 h1
  simp only [List.cons.injEq, and_true] at hc
  subst hc
  exact ⟨x, A, n, c, ts, rfl, q5, q1, hx, q4⟩
theorem open_gint8 {r : Reach} {b0 : Nat} {v : Value} {d : DataW H} {p : List MemPlace} (hv : Value.okWide Try.prog w r b0 3 v) (h : DataW.Trod enc Try.prog w base spare held 3 v d p) : ∃ a : Int, v = .int .i64 a ∧ (-9223372036854775808 ≤ a ∧ a ≤ 9223372036854775807) := by
  obtain ⟨a, rfl, -, -, wa⟩ := open_int Try.underlying3 hv h
  exact ⟨a, rfl, bounds_i64 wa⟩
end
end Go.Proofs.Ytlagmjdldplblaa
/- How the statements' arguments come in: rows of things that are done (structs of six cells). -/
namespace Go.Proofs.Ytlagmjdldplblaa
open Go.ChangeShapes Go.WideShapes Go.ChangeAt Go.RowKit
set_option linter.unusedVariables false
set_option maxRecDepth 4000

/-- something that is done -/
structure Op8 where
  kd : Int
  nm : ByteArray
  tn : ByteArray
  bA : Option Addr
  bn : Nat
  bc : Nat
  bz : List Int
  num : Int
  lA : Option Addr
  ln : Nat
  lc : Nat
  lz : List Int
def Op8.cells (o : Op8) : List Value := [.int .u8 o.kd, .string o.nm, .string o.tn, .slice o.bA o.bn o.bc, .int .i64 o.num, .slice o.lA o.ln o.lc]
structure OpOk (w : World) (o : Op8) : Prop where
  kd : 0 ≤ o.kd ∧ o.kd ≤ 255
  nm : o.nm.size ≤ maxLen
  tn : o.tn.size ≤ maxLen
  b : BV w o.bA o.bn o.bz
  bl : o.bn ≤ o.bc
  num : -9223372036854775808 ≤ o.num ∧ o.num ≤ 9223372036854775807
  l : IV w o.lA o.ln o.lz
  ll : o.ln ≤ o.lc
  lr : Rgs o.lz
theorem OpOk.below {w w' : World} {o : Op8} (h : OpOk w o) (hb : Below w.heap.size w w') : OpOk w' o := ⟨h.kd, h.nm, h.tn, h.b.below hb, h.bl, h.num, SV.below h.l hb, h.ll, h.lr⟩
def op0 : Op8 := ⟨0, ⟨#[]⟩, ⟨#[]⟩, none, 0, 0, [], 0, none, 0, 0, []⟩
/-- the slice at A of n things that are done -/
def OPs (w : World) (A : Option Addr) (n : Nat) (os : List Op8) : Prop :=
  os.length = n ∧ (n = 0 ∨ ∃ b off, A = some ⟨b, off, none⟩ ∧ ∀ i, i < n → (∀ k, k < 6 → w.cell? ⟨b, off + i * 6 + k, none⟩ = (os.getD i op0).cells[k]?) ∧ OpOk w (os.getD i op0))
theorem OPs.below {w w' : World} {A : Option Addr} {n : Nat} {os : List Op8} (h : OPs w A n os) (hb : Below w.heap.size w w') : OPs w' A n os := by
  refine ⟨h.1, h.2.imp id ?_⟩
  rintro ⟨b, off, rfl, hc⟩
  refine ⟨b, off, rfl, fun i hi => ⟨fun k hk => ?_, (hc i hi).2.below hb⟩⟩
  have h1 := (hc i hi).1 k hk
  obtain ⟨v, hv⟩ : ∃ v, (os.getD i op0).cells[k]? = some v := by
    have hl : (os.getD i op0).cells.length = 6 := rfl
    exact ⟨_, List.getElem?_eq_getElem (by omega)⟩
  rw [hv] at h1 ⊢
  exact keepc h1 hb
theorem OPs.at {w : World} {A : Option Addr} {n : Nat} {os : List Op8} (h : OPs w A n os) (i : Nat) (hi : i < n) : ∃ b off o, A = some ⟨b, off, none⟩ ∧ o = os.getD i op0 ∧ OpOk w o ∧
    w.cell? ⟨b, off + i * 6, none⟩ = some (.int .u8 o.kd) ∧ w.cell? ⟨b, off + i * 6 + 1, none⟩ = some (.string o.nm) ∧ w.cell? ⟨b, off + i * 6 + 2, none⟩ = some (.string o.tn) ∧
    w.cell? ⟨b, off + i * 6 + 3, none⟩ = some (.slice o.bA o.bn o.bc) ∧ w.cell? ⟨b, off + i * 6 + 4, none⟩ = some (.int .i64 o.num) ∧ w.cell? ⟨b, off + i * 6 + 5, none⟩ = some (.slice o.lA o.ln o.lc) := by
  rcases h.2 with h0 | ⟨b, off, rfl, hc⟩
  · omega
  · obtain ⟨h1, h2⟩ := hc i hi
    exact ⟨b, off, _, rfl, rfl, h2, h1 0 (by omega), h1 1 (by omega), h1 2 (by omega), h1 3 (by omega), h1 4 (by omega), h1 5 (by omega)⟩
section
variable {H : Type} {enc : TypeId × Value → H} {w : World} {base fuel : Nat} {held : Bool}
theorem bytes_cells {cs : List Value} {x : DataW H × List MemPlace} (hf : DataW.trod enc Try.prog w base (fun _ => true) held fuel 28 cs = some x) :
    ∃ (A : Option Addr) (n c : Nat) (zs : List Int), cs = [.slice A n c] ∧ BV w A n zs ∧ n ≤ c := by
  rcases open_ints Try.underlying28 Try.underlying5 (by kernel_rfl) hf with ⟨hcs, _⟩ | ⟨x, l, c, zs, hcs, _, hl, hm, hz, _, hcell, hwz⟩
  · exact ⟨none, 0, 0, [], hcs, (bv_of (w := w) (a := none) (len := 0) (cap := 0) (zs := []) (.inl ⟨rfl, rfl, rfl, rfl⟩)).1, Nat.le_refl _⟩
  · exact ⟨_, _, _, _, hcs, (bv_of (w := w) (a := some x) (zs := zs) (.inr ⟨x, rfl, hl, hm, by simpa using hz, hcell, hwz⟩)).1, hl⟩
theorem struct6 {P : Program} {t : TypeId} {f0 f1 f2 f3 f4 f5 : Field} {spare : Nat → Bool} {cs : List Value} {x : DataW H × List MemPlace} (hs : P.underlying t = some (.struct #[f0, f1, f2, f3, f4, f5])) (hone : Go.Deep.oneCellFields P #[f0, f1, f2, f3, f4, f5] = true) (hC : P.cellsOf t = 6)
    (h : DataW.trod enc P w base spare held fuel t cs = some x) :
    ∃ (v0 v1 v2 v3 v4 v5 : Value) (y0 y1 y2 y3 y4 y5 : DataW H × List MemPlace) (n : Nat), cs = [v0, v1, v2, v3, v4, v5] ∧
      DataW.trod enc P w base spare held n f0.type [v0] = some y0 ∧ DataW.trod enc P w base spare held n f1.type [v1] = some y1 ∧ DataW.trod enc P w base spare held n f2.type [v2] = some y2 ∧
      DataW.trod enc P w base spare held n f3.type [v3] = some y3 ∧ DataW.trod enc P w base spare held n f4.type [v4] = some y4 ∧ DataW.trod enc P w base spare held n f5.type [v5] = some y5 := by
  obtain ⟨xs, n, _, _, hl, hlen, hf⟩ := DataW.trod_struct hs h
  have hl6 : cs.length = 6 := hl.trans hC
  match cs, hl6 with
  | [c0, c1, c2, c3, c4, c5], _ =>
  match xs, hlen with
  | [y0, y1, y2, y3, y4, y5], _ =>
  obtain ⟨o0, k0⟩ := Go.Deep.hone_of hone 0 f0 rfl
  obtain ⟨o1, k1⟩ := Go.Deep.hone_of hone 1 f1 rfl
  obtain ⟨o2, k2⟩ := Go.Deep.hone_of hone 2 f2 rfl
  obtain ⟨o3, k3⟩ := Go.Deep.hone_of hone 3 f3 rfl
  obtain ⟨o4, k4⟩ := Go.Deep.hone_of hone 4 f4 rfl
  obtain ⟨o5, k5⟩ := Go.Deep.hone_of hone 5 f5 rfl
  exact ⟨c0, c1, c2, c3, c4, c5, y0, y1, y2, y3, y4, y5, n, rfl, by simpa [o0, k0] using hf 0 f0 rfl, by simpa [o1, k1] using hf 1 f1 rfl, by simpa [o2, k2] using hf 2 f2 rfl,
    by simpa [o3, k3] using hf 3 f3 rfl, by simpa [o4, k4] using hf 4 f4 rfl, by simpa [o5, k5] using hf 5 f5 rfl⟩
theorem op_of {cs : List Value} {x : DataW H × List MemPlace} (h : DataW.trod enc Try.prog w base (fun _ => true) held fuel 31 cs = some x) : ∃ o : Op8, cs = o.cells ∧ OpOk w o := by
  obtain ⟨v0, v1, v2, v3, v4, v5, y0, y1, y2, y3, y4, y5, n, rfl, f0, f1, f2, f3, f4, f5⟩ := struct6 Try.underlying31 (by kernel_rfl) (by kernel_rfl) h
  obtain ⟨kd, rfl, hk⟩ := u8_of f0 rfl
  obtain ⟨s, hs, _, hsl⟩ := DataW.trod_string Try.underlying9 f1
  obtain ⟨t, ht, _, htl⟩ := DataW.trod_string Try.underlying9 f2
  obtain ⟨A, m, c, zs, hb, hbv, hbc⟩ := bytes_cells f3
  obtain ⟨z, rfl, hz⟩ := int8_of Try.underlying3 f4
  obtain ⟨L, q, r, ts, hc, q1, q2, q3, q4, q5, q6⟩ := open_intsS Try.underlying29 (by kernel_rfl) Try.underlying3 f5
  simp only [List.cons.injEq, and_true] at hs ht hb hc
  subst hs ht hb hc
  exact ⟨⟨kd, s, t, A, m, c, zs, z, L, q, r, ts⟩, rfl, ⟨hk, hsl, htl, hbv, hbc, hz, q5, q1, q4⟩⟩
theorem ops_of {cs : List Value} {x : DataW H × List MemPlace} (h : DataW.trod enc Try.prog w base (fun _ => true) held fuel 22 cs = some x) :
    ∃ (A : Option Addr) (n c : Nat) (os : List Op8), cs = [.slice A n c] ∧ OPs w A n os := by
  rcases Go.Deep.open_slice Try.underlying22 h with ⟨hcs, _⟩ | ⟨a, len, cap, m, n, D, Pl, hcs, hb, hl, hm, hmm, _, he⟩
  · exact ⟨none, 0, 0, [], hcs, rfl, .inl rfl⟩
  · have k6 : Try.prog.cellsOf 31 = 6 := by kernel_rfl
    rw [k6] at he
    have hlm : len ≤ m := by rw [hmm]; simpa using hl
    have each : ∀ i, i < len → ∃ o : Op8, (∀ k, k < 6 → w.cell? ((a.add (i * 6)).add k) = o.cells[k]?) ∧ OpOk w o := by
      intro i hi
      obtain ⟨cs', h1, h2⟩ := he i (by omega)
      obtain ⟨o, rfl, ho⟩ := op_of h2
      obtain ⟨_, _, h3⟩ := World.cells?_some h1
      exact ⟨o, h3, ho⟩
    by_cases h0 : len = 0
    · exact ⟨some a, len, cap, [], hcs, by simp [h0], .inl h0⟩
    · let f : Nat → Op8 := fun i => if hi : i < len then (each i hi).choose else op0
      have hf : ∀ i, i < len → (∀ k, k < 6 → w.cell? ((a.add (i * 6)).add k) = (f i).cells[k]?) ∧ OpOk w (f i) := by
        intro i hi
        show (∀ k, k < 6 → w.cell? ((a.add (i * 6)).add k) = (if hi : i < len then (each i hi).choose else op0).cells[k]?) ∧ OpOk w (if hi : i < len then (each i hi).choose else op0)
        rw [dif_pos hi]
        exact (each i hi).choose_spec
      obtain ⟨b, off, spot⟩ := a
      have hspot : spot = none := by
        have hc := (hf 0 (by omega)).1 0 (by omega)
        have hc2 : w.cell? ⟨b, off, spot⟩ = some (.int .u8 (f 0).kd) := by simpa [Addr.add, Op8.cells] using hc
        simpa using World.cell?_spot hc2
      subst hspot
      have ha : ∀ i, (⟨b, off, none⟩ : Addr).add i = ⟨b, off + i, none⟩ := by intro i; unfold Addr.add; split <;> simp_all
      have ha2 : ∀ i k, ((⟨b, off, none⟩ : Addr).add (i * 6)).add k = ⟨b, off + i * 6 + k, none⟩ := by
        intro i k; rw [ha]; unfold Addr.add; split <;> simp_all
      refine ⟨some ⟨b, off, none⟩, len, cap, (List.range len).map f, hcs, by simp, .inr ⟨b, off, rfl, fun i hi => ?_⟩⟩
      have hg : ((List.range len).map f).getD i op0 = f i := by simp [List.getD, hi]
      rw [hg]
      refine ⟨fun k hk => ?_, (hf i hi).2⟩
      rw [← ha2]
      exact (hf i hi).1 k hk
theorem open_ops8 {r : Reach} {b0 : Nat} {v : Value} {d : DataW H} {p : List MemPlace} (hv : Value.okWide Try.prog w r b0 22 v) (h : DataW.Trod enc Try.prog w base (fun _ => true) held 22 v d p) :
    ∃ (A : Option Addr) (n c : Nat) (os : List Op8), v = .slice A n c ∧ OPs w A n os := by
  obtain ⟨a0, len0, cap0, rfl⟩ := okWide_slice Try.underlying22 hv
  obtain ⟨fuel, hf⟩ := h
  obtain ⟨A, n, c, os, hc, h1⟩ := ops_of (by simpa [Value.cells] using hf)
  simp only [List.cons.injEq, and_true] at hc
  exact ⟨A, n, c, os, hc, h1⟩
theorem open_case8 {r : Reach} {b0 : Nat} {v : Value} {d : DataW H} {p : List MemPlace} (hv : Value.okWide Try.prog w r b0 46 v) (h : DataW.Trod enc Try.prog w base (fun _ => true) held 46 v d p) :
    ∃ (A : Option Addr) (n c : Nat) (os : List Op8) (B : Option Addr) (m e : Nat) (qs : List Op8) (x : Int) (T : Option Addr) (q r : Nat) (ts : List Int), v = .agg #[.slice A n c, .slice B m e, .int .i64 x, .slice T q r] ∧
      OPs w A n os ∧ OPs w B m qs ∧ IV w T q ts ∧ q ≤ r ∧ (-9223372036854775808 ≤ x ∧ x ≤ 9223372036854775807) ∧ Rgs ts := by
  obtain ⟨v0, v1, v2, v3, y0, y1, y2, y3, f, rfl, -, -, h0, h1, h2, h3⟩ := Joins.open_agg4 Try.underlying46 (by kernel_rfl) (by kernel_rfl) hv h
  obtain ⟨A, n, c, os, hc0, p0⟩ := ops_of h0
  obtain ⟨B, m, e, qs, hc1, p1⟩ := ops_of h1
  obtain ⟨x, rfl, hx⟩ := int8_of Try.underlying3 h2
  obtain ⟨T, q, r, ts, hc, q1, q2, q3, q4, q5, q6⟩ := open_intsS Try.underlying29 (by kernel_rfl) Try.underlying3 h3
  simp only [List.cons.injEq, and_true] at hc hc0 hc1
  subst hc hc0 hc1
  exact ⟨A, n, c, os, B, m, e, qs, x, T, q, r, ts, rfl, p0, p1, q5, q1, hx, q4⟩
end
end Go.Proofs.Ytlagmjdldplblaa
/- Contracts of the statements' helpers: short, does. -/
namespace Go.Proofs.Ytlagmjdldplblaa
open Go.ChangeShapes Go.WideShapes Go.ChangeAt Go.RowKit Go.WideMaps Go.Maps
set_option linter.unusedVariables false
set_option maxRecDepth 4000

/-- a name's first 24 bytes -/
def sh24 (s : ByteArray) : ByteArray := if 24 < s.size then s.extract 0 24 else s
theorem sh24_size (s : ByteArray) : (sh24 s).size ≤ 1000 := by
  unfold sh24
  split
  · rw [ByteArray.size_extract]; omega
  · omega
set_option maxHeartbeats 1000000 in
theorem short8_any (s : ByteArray) (w : World) (hs : s.size ≤ maxLen) : Calls Try.prog 30 #[.string s] w fun e w' => e = .returned (.string (sh24 s)) ∧ w' = w := by
  unfold sh24
  by_cases h : 24 < s.size
  · rw [if_pos h]
    have hi : (24 : Int) < (s.size : Int) := by omega
    have hi2 : (24 : Int) ≤ (s.size : Int) := by omega
    have hi3 : 24 ≤ s.size := by omega
    go_enter Try.func30, Try.ntmps30
    go_wp2_with fail
    go_ret
    exact ⟨rfl, rfl⟩
  · rw [if_neg h]
    have hi : ¬ (24 : Int) < (s.size : Int) := by omega
    go_enter Try.func30, Try.ntmps30
    go_wp2_with fail
    go_ret
    exact ⟨rfl, rfl⟩
theorem LowF.take {F : Nat → Prop} {A : Option Addr} {n m : Nat} (h : n = 0 ∨ ∀ x, A = some x → ¬ F x.block) (hm : m ≤ n) : m = 0 ∨ ∀ x, A = some x → ¬ F x.block := h.imp (fun h => by omega) id
set_option maxHeartbeats 4000000 in
theorem does8_any (g : G8) (k : Nat) (w : World) (F : Nat → Prop) (p : Nat) (M : DK) (hk : k ≤ 800) (hF : ∀ b, w.heap.size ≤ b → F b) (h : DD g k w F p M) (kd num : Int) (s t : ByteArray) (A : Option Addr) (n c : Nat) (bz : List Int) (L : Value) (hkd : 0 ≤ kd ∧ kd ≤ 255) (hs : s.size ≤ maxLen) (ht : t.size ≤ maxLen) (hb : BV w A n bz) (hnc : n ≤ c) (hA : n = 0 ∨ ∀ x, A = some x → ¬ F x.block) :
    Calls Try.prog 23 #[.pointer (some ⟨p, 0, none⟩), .agg #[.int .u8 kd, .string s, .string t, .slice A n c, .int .i64 num, L]] w (Tells (Did (k + 3) F p w (doesD M (kd % 10).toNat (sh24 s) (sh24 t) (bz.take 100)))) := by
  have h1 := Lib.hid (h.alloc (.cells #[.int .u8 kd, .string s, .string t, .slice A n c, .int .i64 num, L] 31))
  have hB := Bk.new w #[.int .u8 kd, .string s, .string t, .slice A n c, .int .i64 num, L] 31
  have hBl : Below w.heap.size w (w.alloc (.cells #[.int .u8 kd, .string s, .string t, .slice A n c, .int .i64 num, L] 31)) := (Below.refl _ _).alloc (Nat.le_refl _) _
  have hF1 := Lib.hid (grow_alloc hF (.cells #[.int .u8 kd, .string s, .string t, .slice A n c, .int .i64 num, L] 31))
  have HK := Lib.hid ((Kp.refl F w).alloc (.cells #[.int .u8 kd, .string s, .string t, .slice A n c, .int .i64 num, L] 31))
  have d0 := hB.cell 0 (v := .int .u8 kd) rfl
  have d1 := hB.cell 1 (v := .string s) rfl
  have d2 := hB.cell 2 (v := .string t) rfl
  have d3 := hB.cell 3 (v := .slice A n c) rfl
  have hSz := Lib.hid (sh24_size s)
  have hmod : kd.tmod 10 = kd % 10 := Int.tmod_eq_emod_of_nonneg hkd.1
  obtain ⟨m, z, hz, hzl, hmc, hm100, hzv, hlo, hfw⟩ := few_l hb hnc
  have hmn : m ≤ n := by rw [← hzl, hz, List.length_take]; have := hb.1; omega
  have HZ := Lib.hid (And.intro (hzv.below hBl) (And.intro (LowF.take hA hmn) (And.intro hfw hBl)))
  rw [← hz]
  obtain ⟨q, hq⟩ : ∃ q : Nat, kd % 10 = (q : Int) := ⟨(kd % 10).toNat, by omega⟩
  rw [hq, Int.toNat_natCast]
  rw [hq] at hmod
  have hq10 : q < 10 := by omega
  clear hb hzv hlo hfw hB h hz hq hF hA hBl hzl hmn
  unfold doesD
  rcases (by omega : q = 0 ∨ q = 1 ∨ q = 2 ∨ q = 3 ∨ q = 4 ∨ 5 ≤ q) with rfl | rfl | rfl | rfl | rfl | h5
  · rw [if_pos rfl]
    go_enter Try.func23, Try.ntmps23
    go_wp2_with fail
    refine (short8_any s _ hs).mono ?_
    rintro e w2 ⟨rfl, rfl⟩
    go_wp2_with fail
    refine (create_any g k _ F p M hk hF1.out h1.out (sh24 s) hSz.out).mono ?_
    rintro e w3 ⟨v, rfl, hL⟩
    go_wp2_with fail
    go_ret
    exact ⟨v, rfl, hL.back HK.out (fun _ h => h) (Nat.le_refl _)⟩
  · rw [if_neg (by decide), if_pos rfl]
    go_enter Try.func23, Try.ntmps23
    go_wp2_with fail
    generalize (w.alloc (.cells #[.int .u8 kd, .string s, .string t, .slice A n c, .int .i64 num, L] 31)) = w1 at *
    refine wp_region_noPanic ?_
    refine region_g 7 (Old w1) (by kernel_rfl) ((Old.refl w1).drew) (fun hS => ?_)
    refine take_w (i := 0) (v := ?_) (some 17) rfl (by kernel_rfl) rfl (fun _ _ _ h => h) (Or.inl ⟨by rfl, ?_⟩) hS ?_
    rotate_left
    · (intro wq hq; go_simp); first | done | with_reducible rfl
    try simp only [Act.put, List.setIfInBounds_toArray, List.set_cons_zero, List.set_cons_succ]
    replace hS := Till.list 0 hS
    refine take_w (i := 1) (v := ?_) (some 18) rfl (by kernel_rfl) rfl (fun _ _ _ h => h) (Or.inl ⟨by rfl, ?_⟩) hS ?_
    rotate_left
    · (intro wq hq; go_simp); first | done | with_reducible rfl
    try simp only [Act.put, List.setIfInBounds_toArray, List.set_cons_zero, List.set_cons_succ]
    replace hS := Till.list 1 hS
    refine take_w (i := 4) (v := ?_) (some 21) rfl (by kernel_rfl) rfl (fun _ _ _ h => h) (Or.inl ⟨by rfl, ?_⟩) hS ?_
    rotate_left
    · (intro wq hq; go_simp); first | done | with_reducible rfl
    try simp only [Act.put, List.setIfInBounds_toArray, List.set_cons_zero, List.set_cons_succ]
    replace hS := Till.list 4 hS
    refine take_g (i := 2) (v := ?_) [3, 2] (some 19) rfl (by kernel_rfl) rfl (fun _ _ _ h => h) (Or.inl ⟨by rfl, ?_⟩) hS ?_
    rotate_left
    · (intro wq hq; have r1 := hq.cell d1; have r3 := hq.cell d3; go_simp); first | done | with_reducible rfl
    try simp only [Act.put, List.setIfInBounds_toArray, List.set_cons_zero, List.set_cons_succ]
    replace hS := Till.list 2 hS
    refine take_g (i := 5) (v := ?_) [6, 5] (some 22) rfl (by kernel_rfl) rfl (fun _ _ _ h => h) (Or.inl ⟨by rfl, ?_⟩) hS ?_
    rotate_left
    · (intro wq hq; have r1 := hq.cell d1; have r3 := hq.cell d3; go_simp); first | done | with_reducible rfl
    try simp only [Act.put, List.setIfInBounds_toArray, List.set_cons_zero, List.set_cons_succ]
    replace hS := Till.list 5 hS
    refine ready_g (rs := [3]) (by kernel_rfl) (by simp) ?_
    refine AllReadyG.cons rfl (fun Kont hK => ?_) AllReadyG.nil
    go_simp
    refine (short8_any s _ hs).mono ?_
    rintro e w2 ⟨rfl, e2⟩
    subst e2
    refine hK.out _ _ (Or.inr ((hS.get (by kernel_rfl)))) (fun hS0 => ?_)
    clear hK Kont
    try simp only [Act.put, List.setIfInBounds_toArray, List.set_cons_zero, List.set_cons_succ]
    clear hS
    have hS := hS0
    clear hS0
    refine ready_g (rs := [6]) (by kernel_rfl) (by simp) ?_
    refine AllReadyG.cons rfl (fun Kont hK => ?_) AllReadyG.nil
    go_simp
    refine (HZ.out.2.2.1 _ HZ.out.2.2.2.drew).mono ?_
    rintro e w2 ⟨rfl, e2⟩
    subst e2
    refine hK.out _ _ (Or.inr ((hS.get (by kernel_rfl)))) (fun hS0 => ?_)
    clear hK Kont
    try simp only [Act.put, List.setIfInBounds_toArray, List.set_cons_zero, List.set_cons_succ]
    clear hS
    have hS := hS0
    clear hS0
    refine ready_g (rs := [7]) (by kernel_rfl) (by simp) ?_
    refine AllReadyG.cons rfl (fun Kont hK => ?_) AllReadyG.nil
    go_simp
    refine (append_any g k w1.drew F p M hk hF1.out h1.out.drew (sh24 s) hSz.out A m c z (HZ.out.1.below ((Below.refl _ _).drew)) hmc (by omega) HZ.out.2.1).mono ?_
    rintro e w3 ⟨v, rfl, hL⟩
    refine hK.out _ _ (Or.inl (by kernel_rfl)) (fun hS0 => ?_)
    clear hK Kont
    try simp only [Act.put, List.setIfInBounds_toArray, List.set_cons_zero, List.set_cons_succ]
    clear hS
    have hS := hS0
    clear hS0
    refine take_w (i := 8) (v := ?_) (some 4) rfl (by kernel_rfl) rfl (fun _ _ _ h => h) (Or.inl ⟨by rfl, ?_⟩) hS ?_
    rotate_left
    · (intro wq hq; go_simp); first | done | with_reducible rfl
    try simp only [Act.put, List.setIfInBounds_toArray, List.set_cons_zero, List.set_cons_succ]
    replace hS := Till.list 8 hS
    refine done_g (by kernel_rfl) (NoPanic.normal ?_) _
    clear hS
    replace HK := Lib.hid HK.out.drew
    go_wp2_with fail
    go_ret
    exact ⟨v, rfl, hL.back HK.out (fun _ h => h) (Nat.le_refl _)⟩
  · rw [if_neg (by decide), if_neg (by decide), if_pos rfl]
    go_enter Try.func23, Try.ntmps23
    go_wp2_with fail
    refine (short8_any s _ hs).mono ?_
    rintro e w2 ⟨rfl, rfl⟩
    go_wp2_with fail
    refine (sync_any g k _ F p M hk hF1.out h1.out (sh24 s) hSz.out).mono ?_
    rintro e w3 ⟨v, rfl, hL⟩
    go_wp2_with fail
    go_ret
    exact ⟨v, rfl, hL.back HK.out (fun _ h => h) (Nat.le_refl _)⟩
  · rw [if_neg (by decide), if_neg (by decide), if_neg (by decide), if_pos rfl]
    go_enter Try.func23, Try.ntmps23
    go_wp2_with fail
    refine (syncDir_any g k _ F p M hk hF1.out h1.out).mono ?_
    rintro e w3 ⟨v, rfl, hL⟩
    go_wp2_with fail
    go_ret
    exact ⟨v, rfl, hL.back HK.out (fun _ h => h) (Nat.le_refl _)⟩
  · rw [if_neg (by decide), if_neg (by decide), if_neg (by decide), if_neg (by decide), if_pos rfl]
    go_enter Try.func23, Try.ntmps23
    go_wp2_with fail
    generalize (w.alloc (.cells #[.int .u8 kd, .string s, .string t, .slice A n c, .int .i64 num, L] 31)) = w1 at *
    refine wp_region_noPanic ?_
    refine region_g 7 (Old w1) (by kernel_rfl) ((Old.refl w1).drew) (fun hS => ?_)
    refine take_w (i := 0) (v := ?_) (some 38) rfl (by kernel_rfl) rfl (fun _ _ _ h => h) (Or.inl ⟨by rfl, ?_⟩) hS ?_
    rotate_left
    · (intro wq hq; go_simp); first | done | with_reducible rfl
    try simp only [Act.put, List.setIfInBounds_toArray, List.set_cons_zero, List.set_cons_succ]
    replace hS := Till.list 0 hS
    refine take_w (i := 1) (v := ?_) (some 39) rfl (by kernel_rfl) rfl (fun _ _ _ h => h) (Or.inl ⟨by rfl, ?_⟩) hS ?_
    rotate_left
    · (intro wq hq; go_simp); first | done | with_reducible rfl
    try simp only [Act.put, List.setIfInBounds_toArray, List.set_cons_zero, List.set_cons_succ]
    replace hS := Till.list 1 hS
    refine take_w (i := 4) (v := ?_) (some 42) rfl (by kernel_rfl) rfl (fun _ _ _ h => h) (Or.inl ⟨by rfl, ?_⟩) hS ?_
    rotate_left
    · (intro wq hq; go_simp); first | done | with_reducible rfl
    try simp only [Act.put, List.setIfInBounds_toArray, List.set_cons_zero, List.set_cons_succ]
    replace hS := Till.list 4 hS
    refine take_g (i := 2) (v := ?_) [3, 2] (some 40) rfl (by kernel_rfl) rfl (fun _ _ _ h => h) (Or.inl ⟨by rfl, ?_⟩) hS ?_
    rotate_left
    · (intro wq hq; have r1 := hq.cell d1; have r2 := hq.cell d2; go_simp); first | done | with_reducible rfl
    try simp only [Act.put, List.setIfInBounds_toArray, List.set_cons_zero, List.set_cons_succ]
    replace hS := Till.list 2 hS
    refine take_g (i := 5) (v := ?_) [6, 5] (some 43) rfl (by kernel_rfl) rfl (fun _ _ _ h => h) (Or.inl ⟨by rfl, ?_⟩) hS ?_
    rotate_left
    · (intro wq hq; have r1 := hq.cell d1; have r2 := hq.cell d2; go_simp); first | done | with_reducible rfl
    try simp only [Act.put, List.setIfInBounds_toArray, List.set_cons_zero, List.set_cons_succ]
    replace hS := Till.list 5 hS
    refine ready_g (rs := [3]) (by kernel_rfl) (by simp) ?_
    refine AllReadyG.cons rfl (fun Kont hK => ?_) AllReadyG.nil
    go_simp
    refine (short8_any s _ hs).mono ?_
    rintro e w2 ⟨rfl, e2⟩
    subst e2
    refine hK.out _ _ (Or.inr ((hS.get (by kernel_rfl)))) (fun hS0 => ?_)
    clear hK Kont
    try simp only [Act.put, List.setIfInBounds_toArray, List.set_cons_zero, List.set_cons_succ]
    clear hS
    have hS := hS0
    clear hS0
    refine ready_g (rs := [6]) (by kernel_rfl) (by simp) ?_
    refine AllReadyG.cons rfl (fun Kont hK => ?_) AllReadyG.nil
    go_simp
    refine (short8_any t _ ht).mono ?_
    rintro e w2 ⟨rfl, e2⟩
    subst e2
    refine hK.out _ _ (Or.inr ((hS.get (by kernel_rfl)))) (fun hS0 => ?_)
    clear hK Kont
    try simp only [Act.put, List.setIfInBounds_toArray, List.set_cons_zero, List.set_cons_succ]
    clear hS
    have hS := hS0
    clear hS0
    refine ready_g (rs := [7]) (by kernel_rfl) (by simp) ?_
    refine AllReadyG.cons rfl (fun Kont hK => ?_) AllReadyG.nil
    go_simp
    refine (rename_any g k w1.drew F p M (by omega) hF1.out h1.out.drew (sh24 s) (sh24 t) hSz.out).mono ?_
    rintro e w3 ⟨v, rfl, hL⟩
    refine hK.out _ _ (Or.inl (by kernel_rfl)) (fun hS0 => ?_)
    clear hK Kont
    try simp only [Act.put, List.setIfInBounds_toArray, List.set_cons_zero, List.set_cons_succ]
    clear hS
    have hS := hS0
    clear hS0
    refine take_w (i := 8) (v := ?_) (some 4) rfl (by kernel_rfl) rfl (fun _ _ _ h => h) (Or.inl ⟨by rfl, ?_⟩) hS ?_
    rotate_left
    · (intro wq hq; go_simp); first | done | with_reducible rfl
    try simp only [Act.put, List.setIfInBounds_toArray, List.set_cons_zero, List.set_cons_succ]
    replace hS := Till.list 8 hS
    refine done_g (by kernel_rfl) (NoPanic.normal ?_) _
    clear hS
    replace HK := Lib.hid HK.out.drew
    go_wp2_with fail
    go_ret
    exact ⟨v, rfl, hL.back HK.out (fun _ h => h) (Nat.le_refl _)⟩
  · rw [if_neg (by omega), if_neg (by omega), if_neg (by omega), if_neg (by omega), if_neg (by omega)]
    have hn0 : ¬ (q : Int) = 0 := by omega
    have hn1 : ¬ (q : Int) = 1 := by omega
    have hn2 : ¬ (q : Int) = 2 := by omega
    have hn3 : ¬ (q : Int) = 3 := by omega
    have hn4 : ¬ (q : Int) = 4 := by omega
    go_enter Try.func23, Try.ntmps23
    go_wp2_with fail
    refine (short8_any s _ hs).mono ?_
    rintro e w2 ⟨rfl, rfl⟩
    go_wp2_with fail
    refine (remove_any g k _ F p M (by omega) hF1.out h1.out (sh24 s) hSz.out).mono ?_
    rintro e w3 ⟨v, rfl, hL⟩
    go_wp2_with fail
    go_ret
    exact ⟨v, rfl, hL.back HK.out (fun _ h => h) (Nat.le_refl _)⟩
end Go.Proofs.Ytlagmjdldplblaa
/- Contract of the statements' helper did. -/
namespace Go.Proofs.Ytlagmjdldplblaa
open Go.ChangeShapes Go.WideShapes Go.ChangeAt Go.RowKit
set_option linter.unusedVariables false
set_option maxRecDepth 4000

set_option maxHeartbeats 4000000 in
theorem did8_any {I : Nat → Prop} {w : World} {y : Nat} {M : DK} (h : RD w I y M) (hs8 : Sm8 M) (hub : usedD M ≤ 1000000000) (hlen : ∀ x ∈ M.files, x.1.length ≤ 5000000) (kd num : Int) (s t : ByteArray) (A : Option Addr) (n c : Nat) (bz : List Int) (L : Value) (hkd : 0 ≤ kd ∧ kd ≤ 255) (hs : s.size ≤ maxLen) (ht : t.size ≤ maxLen) (hb : BV w A n bz) (hnc : n ≤ c) (hA : n = 0 ∨ ∀ x, A = some x → x.block ≠ y) :
    Calls Try.prog 24 #[.pointer (some ⟨y, 0, none⟩), .agg #[.int .u8 kd, .string s, .string t, .slice A n c, .int .i64 num, L]] w (RDE I w y (doesD M (kd % 10).toNat (sh24 s) (sh24 t) (bz.take 100))) := by
  have hB := Bk.new w #[.int .u8 kd, .string s, .string t, .slice A n c, .int .i64 num, L] 31
  have hBl : Below w.heap.size w (w.alloc (.cells #[.int .u8 kd, .string s, .string t, .slice A n c, .int .i64 num, L] 31)) := (Below.refl _ _).alloc (Nat.le_refl _) _
  have h1 := Lib.hid (h.still hBl)
  have HK := Lib.hid (Kp.of_new (F := fun b => b = y) hBl)
  have d0 := hB.cell 0 (v := .int .u8 kd) rfl
  have d1 := hB.cell 1 (v := .string s) rfl
  have d2 := hB.cell 2 (v := .string t) rfl
  have d3 := hB.cell 3 (v := .slice A n c) rfl
  have HS := Lib.hid hs8
  have HUL := Lib.hid (And.intro hub hlen)
  have hmod : kd.tmod 10 = kd % 10 := Int.tmod_eq_emod_of_nonneg hkd.1
  obtain ⟨m, z, hz, hzl, hmc, hm100, hzv, hlo, hfw⟩ := few_l hb hnc
  have hmn : m ≤ n := by rw [← hzl, hz, List.length_take]; have := hb.1; omega
  have HZ := Lib.hid (And.intro (hzv.below hBl) (And.intro (LowF.take (F := fun b => b = y) hA hmn) (And.intro hfw hBl)))
  rw [← hz]
  obtain ⟨q, hq⟩ : ∃ q : Nat, kd % 10 = (q : Int) := ⟨(kd % 10).toNat, by omega⟩
  rw [hq, Int.toNat_natCast]
  rw [hq] at hmod
  have hq10 : q < 10 := by omega
  clear hb hzv hlo hfw hB h hz hq hA hBl hzl hmn hs8 hub hlen
  unfold doesD
  rcases (by omega : q = 0 ∨ q = 1 ∨ q = 2 ∨ q = 3 ∨ q = 4 ∨ 5 ≤ q) with rfl | rfl | rfl | rfl | rfl | h5
  · rw [if_pos rfl]
    go_enter Try.func24, Try.ntmps24
    go_wp2_with fail
    refine (short8_any s _ hs).mono ?_
    rintro e w2 ⟨rfl, rfl⟩
    go_wp2_with fail
    refine (rcreate_any h1.out HS.out (sh24 s)).mono ?_
    intro e w3 hL
    have HLL := Lib.hid hL
    obtain ⟨hLe, -⟩ := hL
    subst hLe
    go_wp2_with fail
    go_ret
    exact RDE.back HLL.out HK.out (fun b hb => .inl hb)
  · rw [if_neg (by decide), if_pos rfl]
    go_enter Try.func24, Try.ntmps24
    go_wp2_with fail
    generalize (w.alloc (.cells #[.int .u8 kd, .string s, .string t, .slice A n c, .int .i64 num, L] 31)) = w1 at *
    refine wp_region_noPanic ?_
    refine region_g 7 (Old w1) (by kernel_rfl) ((Old.refl w1).drew) (fun hS => ?_)
    refine take_w (i := 0) (v := ?_) (some 17) rfl (by kernel_rfl) rfl (fun _ _ _ h => h) (Or.inl ⟨by rfl, ?_⟩) hS ?_
    rotate_left
    · (intro wq hq; go_simp); first | done | with_reducible rfl
    try simp only [Act.put, List.setIfInBounds_toArray, List.set_cons_zero, List.set_cons_succ]
    replace hS := Till.list 0 hS
    refine take_w (i := 1) (v := ?_) (some 18) rfl (by kernel_rfl) rfl (fun _ _ _ h => h) (Or.inl ⟨by rfl, ?_⟩) hS ?_
    rotate_left
    · (intro wq hq; go_simp); first | done | with_reducible rfl
    try simp only [Act.put, List.setIfInBounds_toArray, List.set_cons_zero, List.set_cons_succ]
    replace hS := Till.list 1 hS
    refine take_w (i := 4) (v := ?_) (some 21) rfl (by kernel_rfl) rfl (fun _ _ _ h => h) (Or.inl ⟨by rfl, ?_⟩) hS ?_
    rotate_left
    · (intro wq hq; go_simp); first | done | with_reducible rfl
    try simp only [Act.put, List.setIfInBounds_toArray, List.set_cons_zero, List.set_cons_succ]
    replace hS := Till.list 4 hS
    refine take_g (i := 2) (v := ?_) [3, 2] (some 19) rfl (by kernel_rfl) rfl (fun _ _ _ h => h) (Or.inl ⟨by rfl, ?_⟩) hS ?_
    rotate_left
    · (intro wq hq; have r1 := hq.cell d1; have r3 := hq.cell d3; go_simp); first | done | with_reducible rfl
    try simp only [Act.put, List.setIfInBounds_toArray, List.set_cons_zero, List.set_cons_succ]
    replace hS := Till.list 2 hS
    refine take_g (i := 5) (v := ?_) [6, 5] (some 22) rfl (by kernel_rfl) rfl (fun _ _ _ h => h) (Or.inl ⟨by rfl, ?_⟩) hS ?_
    rotate_left
    · (intro wq hq; have r1 := hq.cell d1; have r3 := hq.cell d3; go_simp); first | done | with_reducible rfl
    try simp only [Act.put, List.setIfInBounds_toArray, List.set_cons_zero, List.set_cons_succ]
    replace hS := Till.list 5 hS
    refine ready_g (rs := [3]) (by kernel_rfl) (by simp) ?_
    refine AllReadyG.cons rfl (fun Kont hK => ?_) AllReadyG.nil
    go_simp
    refine (short8_any s _ hs).mono ?_
    rintro e w2 ⟨rfl, e2⟩
    subst e2
    refine hK.out _ _ (Or.inr ((hS.get (by kernel_rfl)))) (fun hS0 => ?_)
    clear hK Kont
    try simp only [Act.put, List.setIfInBounds_toArray, List.set_cons_zero, List.set_cons_succ]
    clear hS
    have hS := hS0
    clear hS0
    refine ready_g (rs := [6]) (by kernel_rfl) (by simp) ?_
    refine AllReadyG.cons rfl (fun Kont hK => ?_) AllReadyG.nil
    go_simp
    refine (HZ.out.2.2.1 _ HZ.out.2.2.2.drew).mono ?_
    rintro e w2 ⟨rfl, e2⟩
    subst e2
    refine hK.out _ _ (Or.inr ((hS.get (by kernel_rfl)))) (fun hS0 => ?_)
    clear hK Kont
    try simp only [Act.put, List.setIfInBounds_toArray, List.set_cons_zero, List.set_cons_succ]
    clear hS
    have hS := hS0
    clear hS0
    refine ready_g (rs := [7]) (by kernel_rfl) (by simp) ?_
    refine AllReadyG.cons rfl (fun Kont hK => ?_) AllReadyG.nil
    go_simp
    refine (rappend_any (h1.out.still ((Below.refl _ _).drew)) HS.out HUL.out.1 HUL.out.2 (sh24 s) A m c z (HZ.out.1.below ((Below.refl _ _).drew)) hmc (by omega) HZ.out.2.1).mono ?_
    intro e w3 hL
    have HLL := Lib.hid hL
    obtain ⟨hLe, -⟩ := hL
    subst hLe
    refine hK.out _ _ (Or.inl (by kernel_rfl)) (fun hS0 => ?_)
    clear hK Kont
    try simp only [Act.put, List.setIfInBounds_toArray, List.set_cons_zero, List.set_cons_succ]
    clear hS
    have hS := hS0
    clear hS0
    refine take_w (i := 8) (v := ?_) (some 4) rfl (by kernel_rfl) rfl (fun _ _ _ h => h) (Or.inl ⟨by rfl, ?_⟩) hS ?_
    rotate_left
    · (intro wq hq; go_simp); first | done | with_reducible rfl
    try simp only [Act.put, List.setIfInBounds_toArray, List.set_cons_zero, List.set_cons_succ]
    replace hS := Till.list 8 hS
    refine done_g (by kernel_rfl) (NoPanic.normal ?_) _
    clear hS
    replace HK := Lib.hid HK.out.drew
    go_wp2_with fail
    go_ret
    exact RDE.back HLL.out HK.out (fun b hb => .inl hb)
  · rw [if_neg (by decide), if_neg (by decide), if_pos rfl]
    go_enter Try.func24, Try.ntmps24
    go_wp2_with fail
    refine (short8_any s _ hs).mono ?_
    rintro e w2 ⟨rfl, rfl⟩
    go_wp2_with fail
    refine (rsync_any h1.out HS.out (sh24 s)).mono ?_
    intro e w3 hL
    have HLL := Lib.hid hL
    obtain ⟨hLe, -⟩ := hL
    subst hLe
    go_wp2_with fail
    go_ret
    exact RDE.back HLL.out HK.out (fun b hb => .inl hb)
  · rw [if_neg (by decide), if_neg (by decide), if_neg (by decide), if_pos rfl]
    go_enter Try.func24, Try.ntmps24
    go_wp2_with fail
    refine (rsyncDir_any h1.out HS.out).mono ?_
    intro e w3 hL
    have HLL := Lib.hid hL
    obtain ⟨hLe, -⟩ := hL
    subst hLe
    go_wp2_with fail
    go_ret
    exact RDE.back HLL.out HK.out (fun b hb => .inl hb)
  · rw [if_neg (by decide), if_neg (by decide), if_neg (by decide), if_neg (by decide), if_pos rfl]
    go_enter Try.func24, Try.ntmps24
    go_wp2_with fail
    generalize (w.alloc (.cells #[.int .u8 kd, .string s, .string t, .slice A n c, .int .i64 num, L] 31)) = w1 at *
    refine wp_region_noPanic ?_
    refine region_g 7 (Old w1) (by kernel_rfl) ((Old.refl w1).drew) (fun hS => ?_)
    refine take_w (i := 0) (v := ?_) (some 38) rfl (by kernel_rfl) rfl (fun _ _ _ h => h) (Or.inl ⟨by rfl, ?_⟩) hS ?_
    rotate_left
    · (intro wq hq; go_simp); first | done | with_reducible rfl
    try simp only [Act.put, List.setIfInBounds_toArray, List.set_cons_zero, List.set_cons_succ]
    replace hS := Till.list 0 hS
    refine take_w (i := 1) (v := ?_) (some 39) rfl (by kernel_rfl) rfl (fun _ _ _ h => h) (Or.inl ⟨by rfl, ?_⟩) hS ?_
    rotate_left
    · (intro wq hq; go_simp); first | done | with_reducible rfl
    try simp only [Act.put, List.setIfInBounds_toArray, List.set_cons_zero, List.set_cons_succ]
    replace hS := Till.list 1 hS
    refine take_w (i := 4) (v := ?_) (some 42) rfl (by kernel_rfl) rfl (fun _ _ _ h => h) (Or.inl ⟨by rfl, ?_⟩) hS ?_
    rotate_left
    · (intro wq hq; go_simp); first | done | with_reducible rfl
    try simp only [Act.put, List.setIfInBounds_toArray, List.set_cons_zero, List.set_cons_succ]
    replace hS := Till.list 4 hS
    refine take_g (i := 2) (v := ?_) [3, 2] (some 40) rfl (by kernel_rfl) rfl (fun _ _ _ h => h) (Or.inl ⟨by rfl, ?_⟩) hS ?_
    rotate_left
    · (intro wq hq; have r1 := hq.cell d1; have r2 := hq.cell d2; go_simp); first | done | with_reducible rfl
    try simp only [Act.put, List.setIfInBounds_toArray, List.set_cons_zero, List.set_cons_succ]
    replace hS := Till.list 2 hS
    refine take_g (i := 5) (v := ?_) [6, 5] (some 43) rfl (by kernel_rfl) rfl (fun _ _ _ h => h) (Or.inl ⟨by rfl, ?_⟩) hS ?_
    rotate_left
    · (intro wq hq; have r1 := hq.cell d1; have r2 := hq.cell d2; go_simp); first | done | with_reducible rfl
    try simp only [Act.put, List.setIfInBounds_toArray, List.set_cons_zero, List.set_cons_succ]
    replace hS := Till.list 5 hS
    refine ready_g (rs := [3]) (by kernel_rfl) (by simp) ?_
    refine AllReadyG.cons rfl (fun Kont hK => ?_) AllReadyG.nil
    go_simp
    refine (short8_any s _ hs).mono ?_
    rintro e w2 ⟨rfl, e2⟩
    subst e2
    refine hK.out _ _ (Or.inr ((hS.get (by kernel_rfl)))) (fun hS0 => ?_)
    clear hK Kont
    try simp only [Act.put, List.setIfInBounds_toArray, List.set_cons_zero, List.set_cons_succ]
    clear hS
    have hS := hS0
    clear hS0
    refine ready_g (rs := [6]) (by kernel_rfl) (by simp) ?_
    refine AllReadyG.cons rfl (fun Kont hK => ?_) AllReadyG.nil
    go_simp
    refine (short8_any t _ ht).mono ?_
    rintro e w2 ⟨rfl, e2⟩
    subst e2
    refine hK.out _ _ (Or.inr ((hS.get (by kernel_rfl)))) (fun hS0 => ?_)
    clear hK Kont
    try simp only [Act.put, List.setIfInBounds_toArray, List.set_cons_zero, List.set_cons_succ]
    clear hS
    have hS := hS0
    clear hS0
    refine ready_g (rs := [7]) (by kernel_rfl) (by simp) ?_
    refine AllReadyG.cons rfl (fun Kont hK => ?_) AllReadyG.nil
    go_simp
    refine (rrename_any (h1.out.still ((Below.refl _ _).drew)) HS.out (sh24 s) (sh24 t)).mono ?_
    intro e w3 hL
    have HLL := Lib.hid hL
    obtain ⟨hLe, -⟩ := hL
    subst hLe
    refine hK.out _ _ (Or.inl (by kernel_rfl)) (fun hS0 => ?_)
    clear hK Kont
    try simp only [Act.put, List.setIfInBounds_toArray, List.set_cons_zero, List.set_cons_succ]
    clear hS
    have hS := hS0
    clear hS0
    refine take_w (i := 8) (v := ?_) (some 4) rfl (by kernel_rfl) rfl (fun _ _ _ h => h) (Or.inl ⟨by rfl, ?_⟩) hS ?_
    rotate_left
    · (intro wq hq; go_simp); first | done | with_reducible rfl
    try simp only [Act.put, List.setIfInBounds_toArray, List.set_cons_zero, List.set_cons_succ]
    replace hS := Till.list 8 hS
    refine done_g (by kernel_rfl) (NoPanic.normal ?_) _
    clear hS
    replace HK := Lib.hid HK.out.drew
    go_wp2_with fail
    go_ret
    exact RDE.back HLL.out HK.out (fun b hb => .inl hb)
  · rw [if_neg (by omega), if_neg (by omega), if_neg (by omega), if_neg (by omega), if_neg (by omega)]
    have hn0 : ¬ (q : Int) = 0 := by omega
    have hn1 : ¬ (q : Int) = 1 := by omega
    have hn2 : ¬ (q : Int) = 2 := by omega
    have hn3 : ¬ (q : Int) = 3 := by omega
    have hn4 : ¬ (q : Int) = 4 := by omega
    go_enter Try.func24, Try.ntmps24
    go_wp2_with fail
    refine (short8_any s _ hs).mono ?_
    rintro e w2 ⟨rfl, rfl⟩
    go_wp2_with fail
    refine (rremove_any h1.out HS.out (sh24 s)).mono ?_
    intro e w3 hL
    have HLL := Lib.hid hL
    obtain ⟨hLe, -⟩ := hL
    subst hLe
    go_wp2_with fail
    go_ret
    exact RDE.back HLL.out HK.out (fun b hb => .inl hb)
end Go.Proofs.Ytlagmjdldplblaa
