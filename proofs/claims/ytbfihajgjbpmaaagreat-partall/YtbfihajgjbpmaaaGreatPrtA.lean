/- Texts that belong together, one behind the other: QBa, QBb, QBc, QBd. -/
import Derived.Test.YtbfihajgjbpmaaaGreatOrdY
import Derived.Test.YtbfihajgjbpmaaaGreatPartP
import Derived.Test.YtbfihajgjbpmaaaGreatBase
import Derived.Test.YtbfihajgjbpmaaaGreatGrnB
import Derived.Test.YtbfihajgjbpmaaaGreatCrcOwn
import Derived.Test.YtbfihajgjbpmaaaGreatGrnC
import Derived.Test.YtbfihajgjbpmaaaGreatBlock
/- Stage 11: contract of the program's check of a table. -/
namespace Go.Proofs.YtbfihajgjbpmaaaGreat
open Go.ChangeShapes Go.WideShapes Go.ChangeAt Go.RowKit
set_option linter.unusedVariables false
set_option maxRecDepth 4000

/-- a table: its schema's parts, and its rows -/
abbrev TbA (A : Option Addr) (N C : Nat) (k m g : Int) (R : Option Addr) (n c : Nat) : Array Value := #[.slice A N C, .int .i64 k, .int .i64 m, .int .i64 g, .slice R n c]
abbrev TbV (A : Option Addr) (N C : Nat) (k m g : Int) (R : Option Addr) (n c : Nat) : Value := .agg (TbA A N C k m g R n c)
/-- what is wrong of rows as a part -/
def chE (ts : List Int) (k m g : Int) (l : List RowV) : Int :=
  if checkB ts k m g = true then (if 1 ≤ l.length ∧ l.length ≤ 2000 then (if l.all (rowB ts) = true then (if srtB (cN ts k.toNat) [] l = true then 0 else 1) else 21) else 1) else 20
theorem chE_schema {ts : List Int} {k m g : Int} {l : List RowV} (h : checkB ts k m g = false) : chE ts k m g l = 20 := by unfold chE; rw [if_neg (by rw [h]; simp)]
theorem chE_size {ts : List Int} {k m g : Int} {l : List RowV} (h : checkB ts k m g = true) (h2 : ¬ (1 ≤ l.length ∧ l.length ≤ 2000)) : chE ts k m g l = 1 := by unfold chE; rw [if_pos h, if_neg h2]
theorem chE_row {ts : List Int} {k m g : Int} {l : List RowV} {i : Nat} (h : checkB ts k m g = true) (h2 : 1 ≤ l.length ∧ l.length ≤ 2000) (hi : i < l.length) (hr : rowB ts (l.getD i []) = false) : chE ts k m g l = 21 := by
  unfold chE
  rw [if_pos h, if_pos h2, if_neg]
  intro ha
  have := List.all_eq_true.1 ha (l[i]) (List.getElem_mem hi)
  rw [List.getD_eq_getElem?_getD, List.getElem?_eq_getElem hi, Option.getD_some, this] at hr
  cases hr
theorem chE_sorted {ts : List Int} {k m g : Int} {l : List RowV} (h : checkB ts k m g = true) (h2 : 1 ≤ l.length ∧ l.length ≤ 2000) (h3 : ∀ r ∈ l, rowB ts r = true) : chE ts k m g l = if srtB (cN ts k.toNat) [] l = true then 0 else 1 := by
  unfold chE
  rw [if_pos h, if_pos h2, if_pos (List.all_eq_true.2 h3)]
theorem chE_ok {ts : List Int} {k m g : Int} {l : List RowV} (h : chE ts k m g l = 0) : checkB ts k m g = true ∧ (1 ≤ l.length ∧ l.length ≤ 2000) ∧ (∀ r ∈ l, rowB ts r = true) ∧ srtB (cN ts k.toNat) [] l = true := by
  unfold chE at h
  split at h
  · next h1 =>
    split at h
    · next h2 =>
      split at h
      · next h3 =>
        split at h
        · next h4 => exact ⟨h1, h2, fun r hr => List.all_eq_true.1 h3 r hr, h4⟩
        · cases h
      · cases h
    · cases h
  · cases h
theorem fr_row {ts : List Int} {v : RowV} (ht : Ty ts) (h : rowB ts v = true) (hg : RgV v) : FR ts v := by
  have hl := rowB_len ts v h
  refine ⟨hl, okR_of v0 ts v (fun i hi => ⟨by omega, ?_, rowB_at ts v h i hi, ?_⟩)⟩
  · have e : ts.getD i 0 = ts[i] := by simp [List.getD, hi]
    rw [e]
    have := ht _ (List.getElem_mem hi)
    omega
  · have e : v.getD i v0 = v[i]'(by omega) := by simp [List.getD, show i < v.length by omega]
    rw [e]; exact hg _ (List.getElem_mem _)
/-- what is all right may be written -/
theorem chE_part {ts : List Int} {k m g : Int} {l : List RowV} (h : chE ts k m g l = 0) (hg : ∀ r ∈ l, RgV r) : PartOk ts k.toNat m g.toNat l ∧ (k.toNat : Int) = k ∧ (g.toNat : Int) = g ∧ (∀ r ∈ l, FR ts r) := by
  obtain ⟨h1, h2, h3, h4⟩ := chE_ok h
  have hn := check_is h1
  have ek : (k.toNat : Int) = k := by omega
  have eg : (g.toNat : Int) = g := by omega
  have hf : ∀ r ∈ l, FR ts r := fun r hr => fr_row hn.2.2.2.2.2.2.2.2 (h3 r hr) (hg r hr)
  exact ⟨⟨by rw [ek, eg]; exact h1, h2.1, h2.2, RowsOk.of hf⟩, ek, eg, hf⟩
theorem Bk.tb {w : World} {b : Nat} {A : Option Addr} {N C : Nat} {k m g : Int} {R : Option Addr} {n c : Nat} {T : TypeId} (h : Bk w b (TbA A N C k m g R n c) T) :
    w.cell? ⟨b, 0, none⟩ = some (.slice A N C) ∧ w.cell? ⟨b, 1, none⟩ = some (.int .i64 k) ∧ w.cell? ⟨b, 2, none⟩ = some (.int .i64 m) ∧ w.cell? ⟨b, 3, none⟩ = some (.int .i64 g) ∧ w.cell? ⟨b, 4, none⟩ = some (.slice R n c) :=
  ⟨h.cell 0 rfl, h.cell 1 rfl, h.cell 2 rfl, h.cell 3 rfl, h.cell 4 rfl⟩
set_option maxHeartbeats 2000000 in
theorem pcheck_any (A : Option Addr) (N C : Nat) (ts : List Int) (k m g : Int) (R : Option Addr) (n c : Nat) (vss : List RowV) (w : World) (hv : IV w A N ts) (hN : N ≤ maxLen) (hr : RVs w R n vss) (hn : n ≤ maxLen) (hg : ∀ v ∈ vss, RgV v) :
    Calls Tryz.prog 28 #[TbV A N C k m g R n c] w fun e w' => e = .returned (.int .i64 (chE ts k m g vss)) ∧ Below w.heap.size w w' := by
  have hn' := hn
  unfold maxLen at hn'
  have hl := Lib.hid hr.1
  have HG := Lib.hid hg
  clear hg
  have t0 := Bk.new w (TbA A N C k m g R n c) 66
  have hb0 := Joins.below_alloc1 w (.cells (TbA A N C k m g R n c) 66)
  obtain ⟨c0, c1, c2, c3, c4⟩ := t0.tb
  go_enter Tryz.func28, Tryz.ntmps28
  go_wp2_with fail
  clear c0 c1 c2 c3 c4
  refine (check_any A N C ts k m g _ (hv.below hb0) hN).mono ?_
  rintro e w1 ⟨rfl, hb1⟩
  have t1 := t0.below hb1
  have hb := Below.then hb0 hb1
  clear t0 hb0 hb1
  obtain ⟨c0, c1, c2, c3, c4⟩ := t1.tb
  cases hck : checkB ts k m g
  · have no := Lib.hid (chE_schema (l := vss) hck)
    rw [chkE, hck]
    clear hck
    go_wp2_with fail
    go_ret
    exact ⟨ret_int no.out.symm, hb⟩
  rw [chkE, hck]
  have HK := Lib.hid hck
  clear hck
  by_cases h0 : 1 ≤ n ∧ n ≤ 2000
  case neg =>
    have no := Lib.hid (chE_size (l := vss) HK.out (by rw [hl.out]; exact h0))
    by_cases h1 : n = 0
    · have hz : (n : Int) = 0 := by omega
      clear h0 h1
      go_wp2_with fail
      go_ret
      exact ⟨ret_int no.out.symm, hb⟩
    · have hz : ¬ (n : Int) = 0 := by omega
      have hz2 : (2000 : Int) < (n : Int) := by omega
      clear h0 h1
      go_wp2_with fail
      go_ret
      exact ⟨ret_int no.out.symm, hb⟩
  have hz : ¬ (n : Int) = 0 := by omega
  have hz2 : ¬ (2000 : Int) < (n : Int) := by omega
  have hcd : ¬ (((n : Int) == 0) = true ∨ (2000 : Int) < (n : Int)) := by simp only [beq_iff_eq]; omega
  have HS := Lib.hid (show 1 ≤ vss.length ∧ vss.length ≤ 2000 by rw [hl.out]; exact h0)
  go_wp2_with fail
  clear c0 c1 c2 c3 c4
  generalize ((n : Int) == 0) = q1
  generalize decide ((2000 : Int) < (n : Int)) = q2
  clear hcd hz hz2
  go_loopw [4, 22] (fun r4 i wr => ∃ j : Nat, j ≤ n ∧ i = .int .i64 (j : Int) ∧ Hid (∀ i, i < j → rowB ts (vss.getD i []) = true) ∧ Bk wr w.heap.size (TbA A N C k m g R n c) 66 ∧ Below w.heap.size w wr) (fun _ i _ => n - (intOf i).toNat)
  case atStart => exact ⟨0, by omega, rfl, Lib.hid (fun i hi => by omega), t1, hb⟩
  case round =>
    clear t1 hb
    obtain ⟨j, hj, rfl, HT, t, hb⟩ := hrel
    obtain ⟨c0, c1, c2, c3, c4⟩ := t.tb
    by_cases hlt : j < n
    · have hji : (j : Int) < (n : Int) := by omega
      obtain ⟨b, off, A1, L1, C1, rfl, hc, hL1, hw1⟩ := hr.at j hlt
      have hc := keepc hc hb
      have hw1 := hw1.below hb
      have hv1 := hv.below hb
      go_wp2_with fail
      refine (row_any A N C ts k m g A1 L1 C1 (vss.getD j []) _ hv1 hN hw1 hL1).mono ?_
      rintro e w2 ⟨rfl, hb2⟩
      have hb' := Below.then hb hb2
      have t2 := t.below hb2
      clear hb2 hc hw1 hv1 c0 c1 c2 c3 c4 hb t
      cases h5 : rowB ts (vss.getD j [])
      · have no := Lib.hid (chE_row (l := vss) HK.out HS.out (i := j) (by rw [hl.out]; exact hlt) h5)
        clear h5
        go_wp2_with fail
        go_ret
        exact ⟨ret_int no.out.symm, hb'⟩
      · have HT' : Hid (∀ i, i < j + 1 → rowB ts (vss.getD i []) = true) := Lib.hid (fun i hi => by
          by_cases hij : i < j
          · exact HT.out i hij
          · obtain rfl : i = j := by omega
            exact h5)
        clear h5
        go_wp2_with fail
        go_roundw
        case rel => exact ⟨j + 1, by omega, by go_num, HT', t2, hb'⟩
        case measure => simp [intOf]; omega
    · have hji : ¬ (j : Int) < (n : Int) := by omega
      obtain rfl : j = n := by omega
      have hall : Hid (∀ r ∈ vss, rowB ts r = true) := Lib.hid (fun r hr => by
        obtain ⟨i, hi, rfl⟩ := List.mem_iff_getElem.1 hr
        have := HT.out i (by rw [← hl.out]; exact hi)
        rwa [List.getD_eq_getElem?_getD, List.getElem?_eq_getElem hi, Option.getD_some] at this)
      have hty : Ty ts := (check_is HK.out).2.2.2.2.2.2.2.2
      have ek : (k.toNat : Int) = k := by have := check_is HK.out; omega
      have hK1 : k.toNat ≤ maxLen := by have := check_is HK.out; unfold maxLen; omega
      have HE := Lib.hid (chE_sorted (l := vss) HK.out HS.out hall.out)
      have hF : ∀ v ∈ vss, FR ts v := fun v hv => fr_row hty (hall.out v hv) (HG.out v hv)
      have cc := osorted_any A N C ts k.toNat m g R j c vss wr (hv.below hb) hN hK1 hty (hr.below hb) (by omega) hF
      rw [ek] at cc
      clear hF hty ek hK1
      go_wp2_with fail
      refine cc.mono ?_
      rintro e w2 ⟨rfl, hb2⟩
      have hb' := Below.then hb hb2
      clear cc hb2 c0 c1 c2 c3 c4 t hb
      cases hs : srtB (cN ts k.toNat) [] vss
      · rw [hs] at HE
        clear hs
        go_wp2_with fail
        go_ret
        exact ⟨ret_int HE.out.symm, hb'⟩
      · rw [hs] at HE
        clear hs
        go_wp2_with fail
        go_ret
        exact ⟨ret_int HE.out.symm, hb'⟩
end Go.Proofs.YtbfihajgjbpmaaaGreat
/- Bytes of the call's own, in a block of bytes alone: 'append' keeps it so; what is no byte does not lie there. -/
namespace Go.Proofs.YtbfihajgjbpmaaaGreat
open Go.ChangeShapes Go.WideShapes Go.ChangeAt Go.RowKit
set_option linter.unusedVariables false
set_option maxRecDepth 4000

/-- block g has bytes alone -/
def U8K (w : World) (g : Nat) : Prop := ∀ c T f, w.heap[g]? = some (.cells c T f) → ∀ x ∈ c.toList, ∃ z, x = .int .u8 z
theorem U8K.same {w w' : World} {g : Nat} (h : U8K w g) (hs : w'.heap[g]? = w.heap[g]?) : U8K w' g := fun c T f hc => h c T f (by rw [← hs]; exact hc)
theorem U8K.cell {w : World} {g i : Nat} {x : Value} (h : U8K w g) (hc : w.cell? ⟨g, i, none⟩ = some x) : ∃ z, x = .int .u8 z := by
  simp only [World.cell?] at hc
  split at hc
  · next c T f e =>
    simp only [Option.isSome_none] at hc
    refine h c T f e x ?_
    have : c[i]? = some x := by simpa using hc
    exact Array.mem_toList_iff.2 (Array.mem_of_getElem? this)
  · cases hc
/-- bytes of the call's own, its block being of bytes alone -/
structure OU (w : World) (base : Nat) (v : Value) (bs : List Int) : Prop where
  ow : OW w base v bs
  u8 : ∀ g, v.ownBlock = some g → U8K w g
theorem OW.ownU {w : World} {base : Nat} {v : Value} {bs : List Int} (h : OW w base v bs) {b : Nat} (hb : v.ownBlock = some b) : base ≤ b ∧ b < w.heap.size := by
  rcases h with ⟨rfl, _⟩ | ⟨g, cap, cur, T, rfl, hg, hh, _⟩
  · cases hb
  · cases hb; exact ⟨hg, lt_of_block hh⟩
theorem OU.below {w w' : World} {base : Nat} {v : Value} {bs : List Int} (h : OU w base v bs) (hb : Below w.heap.size w w') : OU w' base v bs :=
  ⟨h.ow.below hb, fun g hg => (h.u8 g hg).same (hb.block g (h.ow.ownU hg).2)⟩
theorem OU.alloc {w : World} {base : Nat} {v : Value} {bs : List Int} (h : OU w base v bs) (o : Obj) : OU (w.alloc o) base v bs := h.below (Joins.below_alloc1 w o)
theorem OU.mono {w : World} {base base' : Nat} {v : Value} {bs : List Int} (h : OU w base v bs) (hb : base' ≤ base) : OU w base' v bs := ⟨h.ow.mono hb, h.u8⟩
theorem OU.same {w w' : World} {base : Nat} {v : Value} {bs : List Int} (h : OU w base v bs) (he : ∀ g, v.ownBlock = some g → g < w.heap.size → w'.heap[g]? = w.heap[g]?) : OU w' base v bs :=
  ⟨OS.ow (n := bs.length) (by
      obtain ⟨h1, h2, h3⟩ := h.ow.os
      refine ⟨h1, h2, ?_⟩
      rcases h3 with h3 | ⟨g, cap, cur, T, rfl, hg, hh, hr⟩
      · exact .inl h3
      · exact .inr ⟨g, cap, cur, T, rfl, hg, (he g rfl (lt_of_block hh)).trans hh, hr⟩), fun g hg => (h.u8 g hg).same (he g hg (h.ow.ownU hg).2)⟩
theorem zero_u8 (n : Nat) : ∀ x ∈ (Builtin.zeroCells (Value.int .u8 0).cells n).toList, ∃ z, x = .int .u8 z := by
  intro x hx
  simp only [Builtin.zeroCells, Value.cells, Array.toList_map, List.mem_map] at hx
  obtain ⟨i, -, rfl⟩ := hx
  refine ⟨0, ?_⟩
  have : i % (#[Value.int .u8 0] : Array Value).size = 0 := by simp; omega
  rw [this]; rfl
theorem bytes_u8 (l : List Int) : ∀ x ∈ bcells l, ∃ z, x = .int .u8 z := fun x hx => by
  obtain ⟨z, _, rfl⟩ := List.mem_map.1 hx
  exact ⟨z, rfl⟩
theorem u8_new (w : World) (c : Array Value) (T : TypeId) (h : ∀ x ∈ c.toList, ∃ z, x = .int .u8 z) : U8K (w.alloc (.cells c T)) w.heap.size := by
  intro c' T' f e
  rw [heap_alloc_new w _] at e
  cases e
  exact h
set_option maxHeartbeats 1000000 in
theorem run_append_ou {w : World} (ty : TypeId) (base : Nat) (v : Value) (bs : List Int) (hown : OU w base v bs) (ad : Option Addr) (m c : Nat) (zs : List Int) (hb : BV w ad m zs)
    (hlen : bs.length + m ≤ 140737488355328) (hbase : base ≤ w.heap.size) :
    ∃ v' w', (Builtin.append_ #[26, 26] ty #[v, .slice ad m c]).run Tryz.prog w = .ok v' w' ∧ OU w' base v' (bs ++ zs) ∧ Below base w w' ∧ (v'.ownBlock = v.ownBlock ∨ v'.ownBlock = some w.heap.size) ∧ (∀ b, b < w.heap.size → v.ownBlock ≠ some b → w'.heap[b]? = w.heap[b]?) := by
  obtain ⟨v', w', hr, h1, h2, h3, h4⟩ := run_append_os2 el_bytes ty base v bs.length (bcells bs) hown.ow.os ad m c (bcells zs) hb.sv (by omega) hlen hbase
  have h1' : OW w' base v' (bs ++ zs) := OS.ow (n := bs.length + m) (by rw [bcells, List.map_append]; exact h1)
  refine ⟨v', w', hr, ⟨h1', ?_⟩, h2, h3, h4⟩
  have ht := Tryz.underlying26
  have hs := src_sv el_bytes hb.sv c
  obtain ⟨-, hinfo, hzs, hk1⟩ := el_bytes
  obtain ⟨i0, hi, hz0, hz1, hz2⟩ := info_parts hinfo
  obtain ⟨o1, o2, o3⟩ := hown.ow.os
  have hzl : (bcells zs).length = m * 1 := hb.sv.1
  have lay : ∀ (old : Nat), U8K (w.drew.alloc (.cells ((bcells bs ++ bcells zs).toArray ++ Builtin.zeroCells (Value.int .u8 0).cells (grownCap w (bs.length + m) old 5 - (bs.length + m))) 5)) w.heap.size := by
    intro old
    refine u8_new w.drew _ _ (fun x hx => ?_)
    rw [Array.toList_append] at hx
    rcases List.mem_append.1 hx with hx | hx
    · rcases List.mem_append.1 hx with hx | hx
      · exact bytes_u8 _ x hx
      · exact bytes_u8 _ x hx
    · exact zero_u8 _ x hx
  rcases o3 with ⟨rfl, h0⟩ | ⟨g, cap, cur, T, rfl, hg, hh, hl, hm, hsz, htk⟩
  · have hbn : bs = [] := List.eq_nil_of_length_eq_zero (by omega)
    subst hbn
    by_cases h0 : m = 0
    · subst h0
      have hz : zs = [] := List.eq_nil_of_length_eq_zero (by simpa using hzl)
      subst hz
      have hc := hs.cells
      rw [← hz1] at hc
      have hr2 : (Builtin.append_ #[26, 26] ty #[Value.slice none 0 0, .slice ad 0 c]).run Tryz.prog w = .ok (.slice none 0 0) w := by
        simp [Builtin.append_, run_underlying ht, sizeOf, typeInfo, hi, hs.len, hc, bcells]
      rw [hr2] at hr
      cases hr
      exact fun g hg => by cases hg
    · have hr2 := run_append_grow_src (P := Tryz.prog) w 26 26 ty 5 i0 (.int .u8 0) ht hi hz0 none 0 0 [] (run_firstCells_none _ _ _ _ _) _ m _ (by rw [hz1]; exact hs) (by omega) (by omega) (by rw [hz2]; exact growslice_fits (by omega) (by simpa using hlen))
      have hr3 : Result.ok v' w' = _ := hr.symm.trans hr2
      cases hr3
      intro g hg
      cases hg
      exact lay 0
  · by_cases hroom : bs.length + m ≤ cap
    · have hfit : bs.length * 1 + (bcells zs).length ≤ cur.size := by rw [hsz, hzl, ← Nat.add_mul]; exact Nat.mul_le_mul_right 1 hroom
      have hst := run_storeCells_at (P := Tryz.prog) g (bs.length * i0.size) T (bcells zs) 0 cur w hh (by rw [hz1]; simpa using hfit) hb.sv.2.1
      have hc := hs.cells
      rw [← hz1] at hc
      have hr2 : (Builtin.append_ #[26, 26] ty #[Value.slice (some ⟨g, 0, none⟩) bs.length cap, .slice ad m c]).run Tryz.prog w = .ok (.slice (some ⟨g, 0, none⟩) (bs.length + m) cap) (w.setRow g (cur.toList.take (bs.length * i0.size + 0) ++ bcells zs ++ cur.toList.drop (bs.length * i0.size + 0 + (bcells zs).length)).toArray) := by
        simp [Builtin.append_, run_underlying ht, sizeOf, typeInfo, hi, hs.len, hroom, hc, Addr.add_lit, hst]
      rw [hr2] at hr
      cases hr
      intro g' hg'
      cases hg'
      intro c' T' f e
      rw [setRow_heap w g cur _ T _ hh] at e
      cases e
      intro x hx
      have hu := hown.u8 g rfl cur T (0, 0) hh
      simp only [List.append_assoc, List.mem_append] at hx
      rcases hx with hx | hx | hx
      · exact hu x (List.mem_of_mem_take hx)
      · exact bytes_u8 _ x hx
      · exact hu x (List.mem_of_mem_drop hx)
    · have holds : (Builtin.firstCells i0.size bs.length (.slice (some ⟨g, 0, none⟩) bs.length cap)).run Tryz.prog w.drew = .ok (bcells bs).toArray w.drew := by
        refine run_firstCells_some w.drew i0.size bs.length ⟨g, 0, none⟩ bs.length cap _ (by rw [hz1]; exact o1) ?_
        intro j u hj
        have ha : (⟨g, 0, none⟩ : Addr).add j = ⟨g, j, none⟩ := by unfold Addr.add; split <;> simp_all
        have e : cur[j]? = some u := by
          rw [← htk, List.getElem?_take] at hj
          split at hj
          · simpa using hj
          · cases hj
        rw [ha]
        show w.cell? _ = _
        simp only [World.cell?, hh, e]; rfl
      have hr2 := run_append_grow_src (P := Tryz.prog) w 26 26 ty 5 i0 (.int .u8 0) ht hi hz0 (some ⟨g, 0, none⟩) bs.length cap _ holds _ m _ (by rw [hz1]; exact hs) (by omega) (by omega) (by rw [hz2]; exact growslice_fits (by omega) (by simpa using hlen))
      have hr3 : Result.ok v' w' = _ := hr.symm.trans hr2
      cases hr3
      intro g' hg'
      cases hg'
      exact lay cap
/-- at the operation itself, in a region that keeps its order -/
theorem append_ou {w : World} {ops : Array Oper} {rest : List Oper} {o : Oper} {act : Act} {Q : Exit → Act → World → Prop} (hgd : o.guard = none) (s x : Operand)
    (ho : o.op = .call { callee := .builtin .append, args := #[s, x], argTypes := #[26, 26] })
    (base : Nat) (v : Value) (bs : List Int) (hs : act.eval s = v) (hown : OU w base v bs) (ad : Option Addr) (m c : Nat) (zs : List Int) (hx : act.eval x = .slice ad m c) (hb : BV w ad m zs)
    (hlen : bs.length + m ≤ 140737488355328) (hbase : base ≤ w.heap.size)
    (h : ∀ v' w', OU w' base v' (bs ++ zs) → Below base w w' → (v'.ownBlock = v.ownBlock ∨ v'.ownBlock = some w.heap.size) → (∀ b, b < w.heap.size → v.ownBlock ≠ some b → w'.heap[b]? = w.heap[b]?) → wpList Tryz.prog ops Q rest (act.put o.dst v') w') : wpList Tryz.prog ops Q (o :: rest) act w := by
  obtain ⟨v', w', hr, h1, h2, h3, h4⟩ := run_append_ou o.type base v bs hown ad m c zs hb hlen hbase
  refine wpList_plain hgd fun K hK => ?_
  unfold Oper.wp execOp
  simp only [ho, resolve, invoke, builtin, Sem.run_bind, Sem.run_pure, Result.andThen_ok, List.map_toArray, List.map_cons, List.map_nil, hs, hx, hr]
  exact hK _ _ (h v' w' h1 h2 h3 h4)
/-- since w0 nothing but v0's own block has changed, and v's own is v0's, or new -/
structure Gr (w0 w : World) (v0 v : Value) : Prop where
  kp : Kp (fun b => v0.ownBlock = some b) w0 w
  own : ∀ b, v.ownBlock = some b → v0.ownBlock = some b ∨ w0.heap.size ≤ b
theorem Gr.refl (w : World) (v : Value) : Gr w w v v := ⟨Kp.refl _ _, fun b h => .inl h⟩
theorem Gr.trans {w0 w1 w2 : World} {v0 v1 v2 : Value} (h : Gr w0 w1 v0 v1) (k : Gr w1 w2 v1 v2) : Gr w0 w2 v0 v2 := by
  refine ⟨⟨k.kp.os.trans h.kp.os, k.kp.tape.trans h.kp.tape, k.kp.output.trans h.kp.output, Nat.le_trans h.kp.size k.kp.size, fun b hb hn => ?_⟩, fun b hb => ?_⟩
  · refine (k.kp.block b (Nat.lt_of_lt_of_le hb h.kp.size) (fun e => ?_)).trans (h.kp.block b hb hn)
    rcases h.own b e with q | q
    · exact hn q
    · omega
  · rcases k.own b hb with q | q
    · exact h.own b q
    · exact .inr (Nat.le_trans h.kp.size q)
theorem Gr.new {w0 w w' : World} {v0 v : Value} (h : Gr w0 w v0 v) (hb : Below w.heap.size w w') : Gr w0 w' v0 v :=
  ⟨h.kp.trans (Kp.of_new hb), h.own⟩
theorem Gr.of {base : Nat} {w w' : World} {v v' : Value} (hb : Below base w w') (hk : v'.ownBlock = v.ownBlock ∨ v'.ownBlock = some w.heap.size) (hs : ∀ b, b < w.heap.size → v.ownBlock ≠ some b → w'.heap[b]? = w.heap[b]?) : Gr w w' v v' :=
  ⟨⟨hb.os, hb.tape, hb.output, hb.size, fun b hl hn => hs b hl hn⟩, fun b e => by
    rcases hk with hk | hk
    · exact .inl (by rw [← hk]; exact e)
    · rw [hk] at e
      have := Option.some.inj e
      exact .inr (by omega)⟩
theorem Gr.below {base : Nat} {w w' : World} {v v' : Value} (h : Gr w w' v v') (hv : ∀ b, v.ownBlock = some b → base ≤ b) (hb : base ≤ w.heap.size) : Below base w w' := h.kp.below hv hb
theorem Gr.rise {base : Nat} {w w' : World} {v v' : Value} {bs : List Int} (h : Gr w w' v v') (hv : ∀ b, v.ownBlock = some b → base ≤ b) (hb : base ≤ w.heap.size) (ho : OU w' 0 v' bs) : OU w' base v' bs := by
  refine ⟨?_, ho.u8⟩
  rcases ho.ow with q | ⟨g, cap, cur, T, rfl, -, r⟩
  · exact .inl q
  · refine .inr ⟨g, cap, cur, T, rfl, ?_, r⟩
    rcases h.own g rfl with q | q
    · exact hv g q
    · omega

/-- what lies in memory as R says does not lie among bytes -/
structure NU {α : Type} (R : Rep α) : Prop where
  away : ∀ {w : World} {v : Value} {x : α} {F H : Nat → Prop}, R.rep w v x F → (∀ b, H b → U8K w b) → R.rep w v x (fun b => F b ∧ ¬ H b)
  no : ∀ {w : World} {v : Value} {x : α} {F : Nat → Prop}, R.rep w v x F → ∀ z, v ≠ .int .u8 z
theorem vcells_no : ∀ (vs : List (Int × ByteArray)), ∀ u ∈ vcells vs, ∀ z, u ≠ .int .u8 z
  | [], u, hu, z => by cases hu
  | v :: vs, u, hu, z => by
    rw [vcells] at hu
    rcases List.mem_cons.1 hu with rfl | hu
    · intro h; cases h
    · rcases List.mem_cons.1 hu with rfl | hu
      · intro h; cases h
      · exact vcells_no vs u hu z
/-- a cell that is no byte -/
theorem U8K.ne {w : World} {g b i : Nat} {x : Value} (h : U8K w g) (hc : w.cell? ⟨b, i, none⟩ = some x) (hx : ∀ z, x ≠ .int .u8 z) : b ≠ g := by
  rintro rfl
  obtain ⟨z, hz⟩ := h.cell hc
  exact hx z hz
theorem rowRep_nu : NU rowRep where
  away := fun {w v x F H} h hu => by
    obtain ⟨h1, h2⟩ := h
    refine ⟨h1, fun A L C hv => ?_⟩
    rcases h2 A L C hv with h0 | h0
    · exact .inl h0
    · by_cases hL : L = 0
      · exact .inl hL
      refine .inr fun y hy => ⟨h0 y hy, fun hH => ?_⟩
      obtain ⟨A', L', C', hv', q1, q2, q3, q4, q5⟩ := h1
      rw [hv] at hv'
      cases hv'
      rcases q4.2.2 with q | ⟨b, off, e, hc⟩
      · exact absurd q hL
      · rw [e] at hy
        cases hy
        have hl : 0 < (vcells x).length := by rw [q4.1]; omega
        exact (hu b hH).ne (hc 0 _ (List.getElem?_eq_getElem hl)) (vcells_no x _ (List.getElem_mem _)) rfl
  no := fun {w v x F} h z => by obtain ⟨⟨A, L, C, rfl, _⟩, _⟩ := h; intro e; cases e
theorem SlR.away {α : Type} {R : Rep α} {d : α} (hR : NU R) {w : World} {A : Option Addr} {L : Nat} {xs : List α} {F H : Nat → Prop} (h : SlR R d w A L xs F) (hu : ∀ b, H b → U8K w b) : SlR R d w A L xs (fun b => F b ∧ ¬ H b) := by
  obtain ⟨h1, h2⟩ := h
  refine ⟨h1, ?_⟩
  by_cases hL : L = 0
  · exact .inl hL
  rcases h2 with h2 | ⟨b, off, rfl, hf, hr⟩
  · exact .inl h2
  · obtain ⟨u, e1, e2⟩ := hr 0 (by omega)
    exact .inr ⟨b, off, rfl, ⟨hf, fun hH => (hu b hH).ne e1 (hR.no e2) rfl⟩, fun i hi => by obtain ⟨u, e1, e2⟩ := hr i hi; exact ⟨u, e1, hR.away e2 hu⟩⟩
theorem sliceRep_nu {α : Type} {R : Rep α} (d : α) (hR : NU R) : NU (sliceRep R d) where
  away := fun {w v x F H} h hu => by obtain ⟨A, L, C, q1, q2, q3, q4, q5⟩ := h; exact ⟨A, L, C, q1, q2, q3, q4, SlR.away hR q5 hu⟩
  no := fun {w v x F} h z => by obtain ⟨A, L, C, rfl, _⟩ := h; intro e; cases e
/-- what is no byte stays, when nothing changes but blocks of bytes -/
theorem NU.kp {α : Type} {R : Rep α} (hR : NU R) {w w' : World} {u : Value} {x : α} {H : Nat → Prop} (h : R.rep w u x (fun _ => True)) (hu : ∀ b, H b → U8K w b) (hk : Kp H w w') : R.rep w' u x (fun _ => True) :=
  R.wider (R.frame (hR.away h hu) (fun b hb hl => hk.block b hl hb.2)) (fun _ _ => trivial)
theorem SlR.kp {α : Type} {R : Rep α} {d : α} (hR : NU R) {w w' : World} {A : Option Addr} {L : Nat} {xs : List α} {H : Nat → Prop} (h : SlR R d w A L xs (fun _ => True)) (hu : ∀ b, H b → U8K w b) (hk : Kp H w w') : SlR R d w' A L xs (fun _ => True) :=
  ((h.away hR hu).frame (fun b hb hl => hk.block b hl hb.2)).wider (fun _ _ => trivial)
theorem RVs.kp {w w' : World} {A : Option Addr} {L : Nat} {xs : List RowV} {H : Nat → Prop} (h : RVs w A L xs) (hu : ∀ b, H b → U8K w b) (hk : Kp H w w') : RVs w' A L xs := ((RVs.slR h).kp rowRep_nu hu hk).rvs
theorem SV.kp {k : Nat} {w w' : World} {A : Option Addr} {n : Nat} {cs : List Value} {H : Nat → Prop} (h : SV k w A n cs) (hn : ∀ u ∈ cs, ∀ z, u ≠ .int .u8 z) (hu : ∀ b, H b → U8K w b) (hk : Kp H w w') : SV k w' A n cs := by
  obtain ⟨h1, h2, h3⟩ := h
  refine ⟨h1, h2, ?_⟩
  rcases h3 with h3 | ⟨b, off, rfl, hc⟩
  · exact .inl h3
  · refine .inr ⟨b, off, rfl, fun i u hi => ?_⟩
    have hcell := hc i u hi
    exact cell_block (hk.block b (cell_lt hcell) (fun e => (hu b e).ne hcell (hn u (List.mem_of_getElem? hi)) rfl)) hcell
theorem IV.kp {w w' : World} {A : Option Addr} {n : Nat} {ts : List Int} {H : Nat → Prop} (h : IV w A n ts) (hu : ∀ b, H b → U8K w b) (hk : Kp H w w') : IV w' A n ts :=
  SV.kp h (fun u hu' z => by obtain ⟨x, _, rfl⟩ := List.mem_map.1 hu'; intro e; cases e) hu hk
theorem WV.kp {w w' : World} {A : Option Addr} {n : Nat} {vs : RowV} {H : Nat → Prop} (h : WV w A n vs) (hu : ∀ b, H b → U8K w b) (hk : Kp H w w') : WV w' A n vs :=
  SV.kp h (vcells_no vs) hu hk
theorem Kp.cellU {w w' : World} {b i : Nat} {u : Value} {H : Nat → Prop} (hk : Kp H w w') (hu : ∀ b, H b → U8K w b) (hc : w.cell? ⟨b, i, none⟩ = some u) (hn : ∀ z, u ≠ .int .u8 z) : w'.cell? ⟨b, i, none⟩ = some u :=
  cell_block (hk.block b (cell_lt hc) (fun e => (hu b e).ne hc hn rfl)) hc
/-- a block that is none of bytes stays -/
theorem Bk.kp {w w' : World} {b : Nat} {cs : Array Value} {T : TypeId} {H : Nat → Prop} (h : Bk w b cs T) (hn : ∃ x ∈ cs.toList, ∀ z, x ≠ .int .u8 z) (hu : ∀ b, H b → U8K w b) (hk : Kp H w w') : Bk w' b cs T := by
  refine (hk.block b h.lt (fun e => ?_)).trans h
  obtain ⟨x, hx, hne⟩ := hn
  obtain ⟨z, hz⟩ := hu b e _ _ _ h x hx
  exact hne z hz
/-- the same, when bytes of one's own are made more -/
theorem SlR.gr {α : Type} {R : Rep α} {d : α} (hR : NU R) {w w' : World} {A : Option Addr} {L : Nat} {xs : List α} {base : Nat} {v v' : Value} {bs : List Int} (h : SlR R d w A L xs (fun _ => True)) (ho : OU w base v bs) (hg : Gr w w' v v') : SlR R d w' A L xs (fun _ => True) := h.kp hR ho.u8 hg.kp
theorem NU.gr {α : Type} {R : Rep α} (hR : NU R) {w w' : World} {u : Value} {x : α} {base : Nat} {v v' : Value} {bs : List Int} (h : R.rep w u x (fun _ => True)) (ho : OU w base v bs) (hg : Gr w w' v v') : R.rep w' u x (fun _ => True) := hR.kp h ho.u8 hg.kp
theorem Gr.cell {w w' : World} {b i : Nat} {u : Value} {base : Nat} {v v' : Value} {bs : List Int} (hg : Gr w w' v v') (ho : OU w base v bs) (hc : w.cell? ⟨b, i, none⟩ = some u) (hn : ∀ z, u ≠ .int .u8 z) : w'.cell? ⟨b, i, none⟩ = some u := hg.kp.cellU ho.u8 hc hn
theorem RVs.gr {w w' : World} {A : Option Addr} {L : Nat} {xs : List RowV} {base : Nat} {v v' : Value} {bs : List Int} (h : RVs w A L xs) (ho : OU w base v bs) (hg : Gr w w' v v') : RVs w' A L xs := h.kp ho.u8 hg.kp
theorem IV.gr {w w' : World} {A : Option Addr} {n : Nat} {ts : List Int} {base : Nat} {v v' : Value} {bs : List Int} (h : IV w A n ts) (ho : OU w base v bs) (hg : Gr w w' v v') : IV w' A n ts := IV.kp h ho.u8 hg.kp
theorem WV.gr {w w' : World} {A : Option Addr} {n : Nat} {vs : RowV} {base : Nat} {v v' : Value} {bs : List Int} (h : WV w A n vs) (ho : OU w base v bs) (hg : Gr w w' v v') : WV w' A n vs := WV.kp h ho.u8 hg.kp
theorem Bk.gr {w w' : World} {b : Nat} {cs : Array Value} {T : TypeId} {base : Nat} {v v' : Value} {bs : List Int} (h : Bk w b cs T) (hn : ∃ x ∈ cs.toList, ∀ z, x ≠ .int .u8 z) (ho : OU w base v bs) (hg : Gr w w' v v') : Bk w' b cs T := h.kp hn ho.u8 hg.kp
/-- an append to what may change: what else may, stays so -/
theorem Kp.app {H : Nat → Prop} {base : Nat} {w0 w w' : World} {v v' : Value} (h : Kp H w0 w) (hv : ∀ b, v.ownBlock = some b → H b ∨ w0.heap.size ≤ b) (hb : Below base w w') (hk : v'.ownBlock = v.ownBlock ∨ v'.ownBlock = some w.heap.size) (hs : ∀ b, b < w.heap.size → v.ownBlock ≠ some b → w'.heap[b]? = w.heap[b]?) :
    Kp H w0 w' ∧ ∀ b, v'.ownBlock = some b → H b ∨ w0.heap.size ≤ b := by
  refine ⟨⟨hb.os.trans h.os, hb.tape.trans h.tape, hb.output.trans h.output, Nat.le_trans h.size hb.size, fun b hl hn => ?_⟩, fun b e => ?_⟩
  · refine (hs b (Nat.lt_of_lt_of_le hl h.size) (fun e => ?_)).trans (h.block b hl hn)
    rcases hv b e with q | q
    · exact hn q
    · omega
  · rcases hk with hk | hk
    · exact hv b (by rw [← hk]; exact e)
    · rw [hk] at e
      have := Option.some.inj e
      exact .inr (by have := h.size; omega)
end Go.Proofs.YtbfihajgjbpmaaaGreat
/- Stage 11: the frames of both, in blocks of bytes alone. -/
namespace Go.Proofs.YtbfihajgjbpmaaaGreat
open Go.ChangeShapes Go.WideShapes Go.ChangeAt Go.RowKit
set_option linter.unusedVariables false
set_option maxRecDepth 4000

theorem pv_u8 (x : Int) (w : World) : U8K (w.alloc (pvObj x)) w.heap.size := u8_new w _ _ (fun u hu => by
  unfold pre10 at hu
  simp only [List.mem_append, List.mem_map, List.mem_replicate] at hu
  rcases hu with ⟨z, _, rfl⟩ | ⟨_, rfl⟩
  · exact ⟨z, rfl⟩
  · exact ⟨0, rfl⟩)
set_option maxHeartbeats 400000 in
theorem frameu_any (a : Option Addr) (n cap : Nat) (zs : List Int) (w : World) (hv : BV w a n zs) (hmax : n ≤ 140737488350000) :
    Calls Tryz.prog 55 #[.slice a n cap] w fun e w' => ∃ v, e = .returned v ∧ OU w' w.heap.size v (frameL zs) ∧ Below w.heap.size w w' := by
  have h0 : (0 : Int) ≤ (n : Int) := by omega
  have h1 : (n : Int) ≤ 18446744073709551615 := by omega
  have h10 := pv_len10 (x := (n : Int)) (by omega)
  have HL : Hid (zs.length = n) := hv.1
  have hb1 : Below w.heap.size w (w.alloc (pvObj (n : Int))) := (Below.refl _ _).alloc (Nat.le_refl _) _
  have ho1 : OU (w.alloc (pvObj (n : Int))) w.heap.size (.slice (some ⟨w.heap.size, 0, none⟩) (pv (n : Int)).length 10) (pv (n : Int)) := ⟨OW.pv (n : Int) w w.heap.size (Nat.le_refl _) (by omega) _ rfl, fun g hg => by cases hg; exact pv_u8 _ w⟩
  have hv1 := hv.below hb1
  go_enter Tryz.func55, Tryz.ntmps55
  go_wp2_with (go_at_call 86; refine (putvar_any (n : Int) _ h0 h1).mono ?_; rintro e w' ⟨rfl, rfl⟩)
  generalize w.alloc (pvObj (n : Int)) = w1 at *
  have hs1 := hb1.size
  refine (seal_any _ _ _ _ _ hv1 (by omega)).mono ?_
  rintro e w' ⟨rfl, rfl⟩
  have hsl : BV (w1.alloc (p64Obj (crcN zs : Int))) (some ⟨w1.heap.size, 0, none⟩) 4 (sealL zs) := BV.seal _ w1
  go_wp2_with (first | (at_builtin; refine append_ou rfl (.tmp 8) (.tmp 10) rfl w.heap.size _ _ rfl (ho1.alloc _) _ 4 _ (sealL zs) rfl hsl (by omega) (by rw [heap_alloc]; omega) ?_; intro v2 w2 ho2 hb2 _ _; have hk2 := (hb1.alloc hs1 _).trans hb2; have hv2 := hv.below hk2; have hs2 := hk2.size) | (at_builtin; refine append_ou rfl (.tmp 12) (.tmp 13) rfl w.heap.size _ _ rfl ho2 _ n _ zs rfl hv2 (by rw [List.length_append, sealL_len]; omega) hs2 ?_; intro v3 w3 ho3 hb3 _ _; have hk3 := hk2.trans hb3))
  go_ret
  refine ⟨_, rfl, ?_, hk3⟩
  rw [frameL, HL.out]
  exact ho3
theorem OU.empty (w : World) (base : Nat) (hb : base ≤ w.heap.size) (g : Nat) (hg : g = w.heap.size) : OU (w.alloc (.cells #[] 5)) base (.slice (some ⟨g, 0, none⟩) 0 0) [] :=
  ⟨OW.empty w base hb g hg, fun b hb' => by cases hb'; rw [hg]; exact u8_new w _ _ (fun x hx => by simp at hx)⟩
set_option maxHeartbeats 1000000 in
theorem rputvaru_any (x : Int) (w : World) (h1 : 0 ≤ x) (h2 : x ≤ 18446744073709551615) :
    Calls Tryz.prog 62 #[.int .u64 x] w fun e w' => ∃ v, e = .returned v ∧ OU w' w.heap.size v (pv x) ∧ Below w.heap.size w w' := by
  go_enter Tryz.func62, Tryz.ntmps62
  go_wp2
  go_loopw [0, 3] (fun a v wr => ∃ (y : Int) (pre : List Int), 0 ≤ y ∧ y ≤ 18446744073709551615 ∧ a = .int .u64 y ∧ Hid (pv x = pre ++ pv y) ∧ OU wr w.heap.size v pre ∧ Below w.heap.size w wr) (fun a _ _ => (intOf a).toNat)
  case atStart => exact ⟨x, [], h1, h2, rfl, rfl, OU.empty w _ (Nat.le_refl _) _ rfl, (Below.refl _ _).alloc (Nat.le_refl _) _⟩
  case round =>
    obtain ⟨y, pre, hy1, hy2, rfl, hp, hown, hbel⟩ := hrel
    have hlen : pre.length + (pv y).length ≤ 10 := by
      have := pv_len10 (x := x) (by omega)
      rw [hp.out] at this; simpa using this
    have hpos := pv_pos y
    have hsz := hbel.size
    by_cases hlt : y < 128
    · go_wp2_with (at_builtin; refine append_ou rfl (.tmp 16) (.tmp 19) rfl w.heap.size _ pre rfl (hown.alloc _) _ _ _ [y] rfl (BV.one _ y hy1 (by omega)) (by omega) (by rw [heap_alloc]; omega) ?_; intro v' w1 ho hb _ _)
      have e : pre ++ [y] = pv x := by rw [hp.out, pv_small hlt]
      rw [e] at ho
      go_ret
      exact ⟨_, rfl, ho, (hbel.alloc hsz _).trans hb⟩
    · go_wp2_with (at_builtin; refine append_ou rfl (.tmp 7) (.tmp 12) rfl w.heap.size _ pre rfl (hown.alloc _) _ _ _ [y % 128 + 128] rfl (BV.one _ (y % 128 + 128) (by omega) (by omega)) (by omega) (by rw [heap_alloc]; omega) ?_; intro v' w1 ho hb _ _)
      go_roundw
      case rel =>
        refine ⟨y / 128, pre ++ [y % 128 + 128], by omega, by omega, rfl, ?_, ho, (hbel.alloc hsz _).trans hb⟩
        show _ = _
        rw [hp.out, pv_big hlt]; simp
      case measure => simp [intOf]; omega
set_option maxHeartbeats 400000 in
theorem rframeu_any (a : Option Addr) (n cap : Nat) (zs : List Int) (w : World) (hv : BV w a n zs) (hmax : n ≤ 140737488350000) :
    Calls Tryz.prog 32 #[.slice a n cap] w fun e w' => ∃ v, e = .returned v ∧ OU w' w.heap.size v (frameL zs) ∧ Below w.heap.size w w' := by
  have h0 : (0 : Int) ≤ (n : Int) := by omega
  have h1 : (n : Int) ≤ 18446744073709551615 := by omega
  have h10 := pv_len10 (x := (n : Int)) (by omega)
  have HL : Hid (zs.length = n) := hv.1
  have hcr := crcN_lt hv.2.1
  go_enter Tryz.func32, Tryz.ntmps32
  go_wp2_with (go_at_call 62; refine (rputvaru_any (n : Int) _ h0 h1).mono ?_; rintro e w1 ⟨v1, rfl, ho1, hb1⟩)
  have hv1 := hv.below hb1
  have hs1 := hb1.size
  refine (rsum_any _ _ _ _ _ hv1 (by omega)).mono ?_
  rintro e w' ⟨rfl, rfl⟩
  go_wp2_with fail
  refine (rfour_any (crcN zs : Int) _ (by omega) (by omega)).mono ?_
  rintro e w2 ⟨a2, c2, rfl, hq2, hb2⟩
  have hq2' : BV w2 a2 4 (sealL zs) := hq2
  have hb2' := hb1.trans (hb2.mono hs1)
  have ho2 := ho1.below hb2
  have hs2 := hb2'.size
  clear hq2 ho1 hv1
  go_wp2_with (first | (at_builtin; refine append_ou rfl (.tmp 6) (.tmp 9) rfl w.heap.size _ _ rfl ho2 _ 4 _ (sealL zs) rfl hq2' (by omega) hs2 ?_; intro v3 w3 ho3 hb3 _ _; have hk3 := hb2'.trans hb3; have hv3 := hv.below hk3; have hs3 := hk3.size) | (at_builtin; refine append_ou rfl (.tmp 10) (.tmp 11) rfl w.heap.size _ _ rfl ho3 _ n _ zs rfl hv3 (by rw [List.length_append, sealL_len]; omega) hs3 ?_; intro v4 w4 ho4 hb4 _ _; have hk4 := hk3.trans hb4))
  go_ret
  refine ⟨_, rfl, ?_, hk4⟩
  rw [frameL, HL.out]
  exact ho4
end Go.Proofs.YtbfihajgjbpmaaaGreat
/- Stage 11: putColumn, putColumns. -/
namespace Go.Proofs.YtbfihajgjbpmaaaGreat
open Go.ChangeShapes Go.WideShapes Go.ChangeAt Go.RowKit
set_option linter.unusedVariables false
set_option maxRecDepth 4000

/-- many bytes -/
abbrev manyN : Nat := 100000000000000
theorem block_byt {t : Int} {l : List (Int × ByteArray)} (h : colB t l = true) : Byt (blockL t l) := frameL_bytes (data_bytes h)
theorem block_few {t : Int} {l : List (Int × ByteArray)} (h : colB t l = true) : (blockL t l).length ≤ 122011 := by
  have h1 := block_most h
  have h2 := (colB_iff.1 h).2.1
  omega
set_option maxHeartbeats 1000000 in
theorem pputc_any (v : Value) (bs : List Int) (t : Int) (A : Option Addr) (N C : Nat) (l : List (Int × ByteArray)) (w : World) (ho : OU w 0 v bs) (hbl : bs.length ≤ manyN) (hv : WV w A N l) (hc : colB t l = true) (hr : RgV l) :
    Calls Tryz.prog 59 #[v, .int .i64 t, .slice A N C] w fun e w' => ∃ v', e = .returned v' ∧ OU w' 0 v' (bs ++ blockL t l) ∧ Gr w w' v v' := by
  have hN : N ≤ 1000000 := by have := (colB_iff.1 hc).2.1; have := WV.len hv; omega
  have HC := Lib.hid hc
  clear hc
  go_enter Tryz.func59, Tryz.ntmps59
  go_wp2_with fail
  refine (bput_any t A N C l _ hv hr hN).mono ?_
  rintro e w1 (⟨-, ⟨v1, rfl, o1⟩, hb1⟩ | ⟨hbad, -⟩)
  case inr => exact absurd HC.out (by rw [hbad]; simp)
  have hfew := block_few HC.out
  obtain ⟨L, hL⟩ : ∃ L, (blockL t l).length = L := ⟨_, rfl⟩
  rw [hL] at hfew
  obtain ⟨a1, c1, rfl, -, -, bv1, -⟩ := o1.bvn (block_byt HC.out) L hL
  have HL := Lib.hid hL
  clear hL
  have ho1 := ho.below hb1
  unfold manyN at hbl
  go_wp2_with (at_builtin; refine append_ou rfl (.tmp 15) (.tmp 16) rfl 0 v bs rfl ho1 a1 L c1 _ rfl bv1 (by omega) (Nat.zero_le _) ?_; intro v2 w2 ho2 hb2 hk2 hs2)
  go_ret
  exact ⟨v2, rfl, ho2, ((Gr.refl w v).new hb1).trans (Gr.of hb2 hk2 hs2)⟩
/-- the bytes of the first columns of some rows -/
def colsB (ts : List Int) (g : List RowV) (x : Nat) : List Int := frsL ((granD ts g).take x)
theorem colsB_zero (ts : List Int) (g : List RowV) : colsB ts g 0 = [] := by simp [colsB, frsL]
theorem colsB_next {ts : List Int} {g : List RowV} {x : Nat} (hx : x < ts.length) : colsB ts g (x + 1) = colsB ts g x ++ blockL (ts.getD x 0) (colL g (x : Int)) := by
  unfold colsB
  rw [List.take_succ_eq_append_getElem (by rw [granD_len]; exact hx), frsL_app]
  have h2 : (granD ts g)[x]'(by rw [granD_len]; exact hx) = dataL (ts.getD x 0) (colL g (x : Int)) := by simp [granD]
  rw [h2, frsL, frsL, List.append_nil]; rfl
theorem colsB_all (ts : List Int) (g : List RowV) : colsB ts g ts.length = frsL (granD ts g) := by unfold colsB; rw [gran_take_all]
theorem colsB_most {ts : List Int} {g : List RowV} (h : RowsOk ts g) (ht : Ty ts) (hn : g.length ≤ 2000) : ∀ x, x ≤ ts.length → (colsB ts g x).length ≤ x * 122011
  | 0, _ => by rw [colsB_zero]; simp
  | x + 1, hx => by
    have h1 := colsB_most h ht hn x (by omega)
    have h2 := block_few (h.colB ht hn (k := x) (by omega)).1
    rw [colsB_next (by omega), List.length_append, Nat.succ_mul]
    omega
set_option maxHeartbeats 2000000 in
theorem pputcs_any (v : Value) (bs : List Int) (A : Option Addr) (N C : Nat) (ts : List Int) (R : Option Addr) (n c : Nat) (g : List RowV) (w : World) (ho : OU w 0 v bs) (hbl : bs.length ≤ manyN - 10000000) (hv : IV w A N ts) (ht : Ty ts) (hN : N ≤ 64)
    (hr : RVs w R n g) (hn : n ≤ 2000) (hg : RowsOk ts g) :
    Calls Tryz.prog 57 #[v, .slice A N C, .slice R n c] w fun e w' => ∃ v', e = .returned v' ∧ OU w' 0 v' (bs ++ frsL (granD ts g)) ∧ Gr w w' v v' := by
  have hl := Lib.hid (IV.len hv)
  have hlg := Lib.hid hr.1
  have HG := Lib.hid hg
  have HT := Lib.hid ht
  have HBL := Lib.hid hbl
  clear hg ht hbl
  go_enter Tryz.func57, Tryz.ntmps57
  go_wp2_with fail
  go_loopw [0, 7, 8, 11] (fun o v7 v8 i wr => ∃ (x : Nat), x ≤ N ∧ i = .int .i64 (x : Int) ∧ OU wr 0 o (bs ++ colsB ts g x) ∧ Gr w wr v o) (fun _ _ _ i _ => N - (intOf i).toNat)
  case atStart => exact ⟨0, by omega, rfl, by rw [colsB_zero, List.append_nil]; exact ho, Gr.refl w v⟩
  case round =>
    obtain ⟨x, hx, rfl, hox, hgr⟩ := hrel
    by_cases hlt : x < N
    · have hxi : (x : Int) < (N : Int) := by omega
      have hxl : x < ts.length := by rw [hl.out]; exact hlt
      have hvr := hv.gr ho hgr
      have hrr := hr.gr ho hgr
      obtain ⟨b, off, rfl, hc⟩ := IV.at hvr x hlt
      have hcol := HG.out.colB HT.out (by rw [hlg.out]; exact hn) hxl
      have HNX := Lib.hid (colsB_next (g := g) hxl)
      have hmost := colsB_most HG.out HT.out (by rw [hlg.out]; exact hn) x (by omega)
      have hlen : (bs ++ colsB ts g x).length ≤ manyN := by
        rw [List.length_append]
        have h1 := HBL.out
        have h2 : x * 122011 ≤ 64 * 122011 := Nat.mul_le_mul_right _ (by omega)
        unfold manyN at h1 ⊢
        omega
      obtain ⟨t, hte⟩ : ∃ t, ts.getD x 0 = t := ⟨_, rfl⟩
      rw [hte] at hc hcol HNX
      obtain ⟨pre, hpre⟩ : ∃ pre, bs ++ colsB ts g x = pre := ⟨_, rfl⟩
      rw [hpre] at hox hlen
      have HP : Hid (bs ++ colsB ts g (x + 1) = pre ++ blockL t (colL g (x : Int))) := by show _ = _; rw [HNX.out, ← List.append_assoc, hpre]
      clear hmost hte HNX hpre hxl
      go_wp2_with fail
      refine (gcolumn_any R n c g (x : Int) _ hrr (by omega)).mono ?_
      rintro e w5 ⟨v5, rfl, o5, hb5⟩
      obtain ⟨a5, c5, rfl, -, -, cv5, -⟩ := o5.sv
      have hox5 := hox.below hb5
      have hgr5 := hgr.new hb5
      obtain ⟨cl, hcl⟩ : ∃ cl, colL g (x : Int) = cl := ⟨_, rfl⟩
      rw [hcl] at cv5 hcol HP ⊢
      have hcb := Lib.hid hcol.1
      have hrg := Lib.hid hcol.2.1
      clear hcl hcol hox hgr hb5 o5 hvr hrr hc
      go_wp2_with fail
      refine (pputc_any _ pre t a5 _ c5 cl w5 hox5 hlen cv5 hcb.out hrg.out).mono ?_
      rintro e w6 ⟨v6, rfl, o6, hg6⟩
      have hgr6 := hgr5.trans hg6
      rw [← HP.out] at o6
      clear hox5 hgr5 hg6 cv5
      go_wp2_with fail
      go_roundw
      case rel => exact ⟨x + 1, by omega, by go_num, o6, hgr6⟩
      case measure => simp [intOf]; omega
    · have hxi : ¬ (x : Int) < (N : Int) := by omega
      obtain rfl : x = N := by omega
      have HA : Hid (colsB ts g x = frsL (granD ts g)) := by show _ = _; rw [← hl.out]; exact colsB_all ts g
      rw [HA.out] at hox
      go_wp2_with fail
      go_ret
      exact ⟨_, rfl, hox, hgr⟩
end Go.Proofs.YtbfihajgjbpmaaaGreat
