/- 'append(own, bytes...)' where what is owned lies in an array of whatever type. -/
import Derived.Test.YtmoppmifhhnolaaK
import Derived.Deep.AppendSrc
namespace Go.Proofs.Ytmoppmifhhnolaa
open Go.ChangeShapes Go.WideShapes Go.ChangeAt Go.RowKit
set_option linter.unusedVariables false

/-- v holds the bytes bs, in memory of the call's own, from block number base on, in a block of whatever type -/
def OW (w : World) (base : Nat) (v : Value) (bs : List Int) : Prop :=
  (v = .slice none 0 0 ∧ bs = []) ∨ ∃ g cap cur T, v = .slice (some ⟨g, 0, none⟩) bs.length cap ∧ base ≤ g ∧ w.heap[g]? = some (.cells cur T (0, 0)) ∧ bs.length ≤ cap ∧ cap ≤ maxLen ∧ cur.size = cap ∧ cur.toList.take bs.length = bs.map (Value.int .u8)

theorem OB.ow {w : World} {base : Nat} {v : Value} {bs : List Int} (h : OB w base v bs) : OW w base v bs := by
  rcases h.2 with ⟨rfl, h0⟩ | ⟨g, cap, cur, rfl, hg, hh, hl, hm, hs, ht⟩
  · exact .inl ⟨rfl, List.eq_nil_of_length_eq_zero h0⟩
  · exact .inr ⟨g, cap, cur, 5, rfl, hg, hh, hl, hm, by omega, by rw [Nat.mul_one] at ht; exact ht⟩
theorem OW.empty (w : World) (base : Nat) (hb : base ≤ w.heap.size) (g : Nat) (hg : g = w.heap.size) : OW (w.alloc (.cells #[] 5)) base (.slice (some ⟨g, 0, none⟩) 0 0) [] := (OB.empty w base hb g hg).ow
theorem heap_alloc_lt {w : World} {k : Nat} {x : Obj} (o : Obj) (h : w.heap[k]? = some x) : (w.alloc o).heap[k]? = some x := by
  have hk : k < w.heap.size := by
    rcases Nat.lt_or_ge k w.heap.size with h' | h'
    · exact h'
    · rw [Array.getElem?_eq_none h'] at h; cases h
  show (w.heap.push o)[k]? = _
  rw [Array.getElem?_push, if_neg (by omega)]; exact h
theorem OW.alloc {w : World} {base : Nat} {v : Value} {bs : List Int} (h : OW w base v bs) (o : Obj) : OW (w.alloc o) base v bs := by
  rcases h with h | ⟨g, cap, cur, T, h1, h2, h3, h4⟩
  · exact .inl h
  · exact .inr ⟨g, cap, cur, T, h1, h2, heap_alloc_lt o h3, h4⟩
theorem OW.drew {w : World} {base : Nat} {v : Value} {bs : List Int} (h : OW w base v bs) : OW w.drew base v bs := h
theorem OW.mono {w : World} {base base' : Nat} {v : Value} {bs : List Int} (h : OW w base v bs) (hb : base' ≤ base) : OW w base' v bs := by
  rcases h with h | ⟨g, cap, cur, T, h1, h2, h3⟩
  · exact .inl h
  · exact .inr ⟨g, cap, cur, T, h1, by omega, h3⟩
/-- what is owned stays, whatever is done to younger blocks -/
theorem OW.below {w w' : World} {base : Nat} {v : Value} {bs : List Int} (h : OW w base v bs) (hb : Below w.heap.size w w') : OW w' base v bs := by
  rcases h with h | ⟨g, cap, cur, T, h1, h2, h3, h4⟩
  · exact .inl h
  · refine .inr ⟨g, cap, cur, T, h1, h2, ?_, h4⟩
    have hk : g < w.heap.size := by
      rcases Nat.lt_or_ge g w.heap.size with h' | h'
      · exact h'
      · rw [Array.getElem?_eq_none h'] at h3; cases h3
    rw [hb.block g hk]; exact h3
theorem OW.bvn {w : World} {base : Nat} {v : Value} {bs : List Int} (h : OW w base v bs) (hb : ∀ z ∈ bs, 0 ≤ z ∧ z ≤ 255) (n : Nat) (hn : bs.length = n) :
    ∃ a cap, v = .slice a n cap ∧ n ≤ cap ∧ cap ≤ maxLen ∧ BV w a n bs ∧ (∀ x, a = some x → base ≤ x.block) := by
  subst hn
  rcases h with ⟨rfl, rfl⟩ | ⟨g, cap, cur, T, rfl, hg, hh, hl, hm, hs, ht⟩
  · exact ⟨none, 0, rfl, Nat.le_refl _, Nat.zero_le _, ⟨rfl, hb, .inl rfl⟩, fun x hx => by cases hx⟩
  · refine ⟨_, cap, rfl, hl, hm, ⟨rfl, hb, .inr ⟨g, 0, rfl, fun i hi => ?_⟩⟩, fun x hx => by cases hx; exact hg⟩
    have e : cur[i]? = some (.int .u8 (bs.getD i 0)) := by
      have h1 : (cur.toList.take bs.length)[i]? = some (.int .u8 (bs.getD i 0)) := by rw [ht]; simp [hi]
      rw [List.getElem?_take_of_lt hi] at h1
      simpa using h1
    rw [Nat.zero_add]
    simp only [World.cell?, hh, e]; rfl

theorem src_bv {w : World} {ad : Option Addr} {m : Nat} {zs : List Int} (h : BV w ad m zs) (c : Nat) : Src Try.prog 1 23 (.slice ad m c) m (zs.map (Value.int .u8)) w := by
  obtain ⟨h1, h2, h3⟩ := h
  cases ad with
  | none =>
    have hm : m = 0 := by
      rcases h3 with h3 | ⟨b, off, hb, _⟩
      · exact h3
      · cases hb
    subst hm
    have hz : zs = [] := List.eq_nil_of_length_eq_zero h1
    subst hz
    exact Src.ofNil w Try.underlying23 c
  | some ad =>
    refine Src.ofSlice w Try.underlying23 ad m c _ (by simp; omega) ?_ (oneCells _)
    intro j u hj
    rcases h3 with h3 | ⟨b, off, hb, hcell⟩
    · have hz : zs = [] := List.eq_nil_of_length_eq_zero (by omega)
      subst hz; simp at hj
    · cases hb
      have hjl : j < zs.length := by
        rcases Nat.lt_or_ge j zs.length with h | h
        · exact h
        · simp [List.getElem?_eq_none h] at hj
      have ha : (⟨b, off, none⟩ : Addr).add j = ⟨b, off + j, none⟩ := by unfold Addr.add; split <;> simp_all
      rw [ha, hcell j (by omega)]
      simp [hjl] at hj ⊢
      exact hj

theorem zero_cells_size (n : Nat) : (Builtin.zeroCells (Value.int .u8 0).cells n).size = n := by rw [size_zeroCells]; exact Nat.mul_one _

theorem run_append_ow {w : World} (ty : TypeId) (base : Nat) (v : Value) (bs : List Int) (hown : OW w base v bs) (ad : Option Addr) (m c : Nat) (zs : List Int) (hb : BV w ad m zs)
    (hlen : bs.length + m ≤ 140737488355328) (hbase : base ≤ w.heap.size) :
    ∃ v' w', (Builtin.append_ #[23, 23] ty #[v, .slice ad m c]).run Try.prog w = .ok v' w' ∧ OW w' base v' (bs ++ zs) ∧ Below base w w' := by
  obtain ⟨i0, hi, hz0, hz1, hz2⟩ := info_parts info5
  have hs := src_bv hb c
  have hzl : zs.length = m := hb.1
  have hml : bs.length + m ≤ maxLen := by unfold maxLen; omega
  have lay : ∀ (old : Nat), old < bs.length + m → OW (w.drew.alloc (.cells (((bs.map (Value.int .u8)) ++ zs.map (Value.int .u8)).toArray ++ Builtin.zeroCells (Value.int .u8 0).cells (grownCap w (bs.length + m) old 5 - (bs.length + m))) 5)) base (.slice (some ⟨w.heap.size, 0, none⟩) (bs.length + m) (grownCap w (bs.length + m) old 5)) (bs ++ zs) := by
    intro old ho
    have hge := grownCap_ge w (bs.length + m) old 5
    have hcm := grownCap_le_maxLen w (bs.length + m) old 5 hml
    refine .inr ⟨w.heap.size, _, _, 5, by rw [List.length_append, hzl], hbase, heap_alloc_new w.drew _, by rw [List.length_append, hzl]; exact hge, hcm, ?_, ?_⟩
    · rw [Array.size_append, zero_cells_size]
      simp only [List.size_toArray, List.length_append, List.length_map]
      omega
    · rw [Array.toList_append, ← List.map_append]
      exact List.take_left' (by simp)
  rcases hown with ⟨rfl, rfl⟩ | ⟨g, cap, cur, T, rfl, hg, hh, hl, hm, hsz, ht⟩
  · by_cases h0 : m = 0
    · subst h0
      have hz : zs = [] := List.eq_nil_of_length_eq_zero hzl
      subst hz
      refine ⟨.slice none 0 0, w, ?_, .inl ⟨rfl, rfl⟩, Below.refl _ _⟩
      have hc := hs.cells
      rw [← hz1] at hc
      simp [Builtin.append_, run_underlying Try.underlying23, sizeOf, typeInfo, hi, hs.len, hc]
    · have hr := run_append_grow_src (P := Try.prog) w 23 23 ty 5 i0 (.int .u8 0) Try.underlying23 hi hz0 none 0 0 [] (run_firstCells_none _ _ _ _ _) _ m _ (by rw [hz1]; exact hs) (by omega) (by omega) (by rw [hz2]; exact growslice_fits (by omega) (by simpa using hlen))
      have hl0 := lay 0 (by simp; omega)
      simp only [List.length_nil, List.map_nil] at hl0
      exact ⟨_, _, hr, hl0, (Below.refl _ _).drew.alloc hbase _⟩
  · by_cases hroom : bs.length + m ≤ cap
    · have hst := run_storeCells_at (P := Try.prog) g (bs.length * i0.size) T (zs.map (Value.int .u8)) 0 cur w hh (by rw [hz1]; simp; omega) (oneCells _)
      have hc := hs.cells
      rw [← hz1] at hc
      refine ⟨.slice (some ⟨g, 0, none⟩) (bs.length + m) cap, w.setRow g (cur.toList.take (bs.length * i0.size + 0) ++ zs.map (Value.int .u8) ++ cur.toList.drop (bs.length * i0.size + 0 + (zs.map (Value.int .u8)).length)).toArray, ?_, .inr ⟨g, cap, _, T, by rw [List.length_append, hzl], hg, setRow_heap w g cur _ T _ hh, by rw [List.length_append, hzl]; exact hroom, hm, ?_, ?_⟩, ?_⟩
      · simp [Builtin.append_, run_underlying Try.underlying23, sizeOf, typeInfo, hi, hs.len, hroom, hc, Addr.add_lit, hst]
      · rw [hz1]
        simp only [List.size_toArray, List.length_append, List.length_take, List.length_drop, Array.length_toList, List.length_map]
        omega
      · rw [hz1]
        simp only [Nat.mul_one, Nat.add_zero]
        rw [ht, ← List.map_append]
        exact List.take_left' (by simp)
      · exact (Below.refl _ _).grown (row := some g) ⟨rfl, rfl, rfl, by simp, fun k _ hk => setRow_other w g k _ (fun e => hk (by rw [e]))⟩ hbase (fun k hk => by cases hk; exact hg)
    · have holds : (Builtin.firstCells i0.size bs.length (.slice (some ⟨g, 0, none⟩) bs.length cap)).run Try.prog w.drew = .ok (bs.map (Value.int .u8)).toArray w.drew := by
        refine run_firstCells_some w.drew i0.size bs.length ⟨g, 0, none⟩ bs.length cap _ (by rw [hz1]; simp) ?_
        intro j u hj
        have hjl : j < bs.length := by
          rcases Nat.lt_or_ge j bs.length with h | h
          · exact h
          · simp [List.getElem?_eq_none h] at hj
        have ha : (⟨g, 0, none⟩ : Addr).add j = ⟨g, j, none⟩ := by unfold Addr.add; split <;> simp_all
        have e : cur[j]? = some u := by
          have h1 : (cur.toList.take bs.length)[j]? = some u := by rw [ht]; exact hj
          rw [List.getElem?_take_of_lt hjl] at h1
          simpa using h1
        rw [ha]
        show w.cell? _ = _
        simp only [World.cell?, hh, e]; rfl
      have hr := run_append_grow_src (P := Try.prog) w 23 23 ty 5 i0 (.int .u8 0) Try.underlying23 hi hz0 (some ⟨g, 0, none⟩) bs.length cap _ holds _ m _ (by rw [hz1]; exact hs) (by omega) (by omega) (by rw [hz2]; exact growslice_fits (by omega) (by simpa using hlen))
      exact ⟨_, _, hr, lay cap (by omega), (Below.refl _ _).drew.alloc hbase _⟩

theorem append_ow {w : World} {ops : Array Oper} {rest : List Oper} {o : Oper} {act : Act} {Q : Exit → Act → World → Prop} (hgd : o.guard = none) (s x : Operand)
    (ho : o.op = .call { callee := .builtin .append, args := #[s, x], argTypes := #[23, 23] })
    (base : Nat) (v : Value) (bs : List Int) (hs : act.eval s = v) (hown : OW w base v bs) (ad : Option Addr) (m c : Nat) (zs : List Int) (hx : act.eval x = .slice ad m c) (hb : BV w ad m zs)
    (hlen : bs.length + m ≤ 140737488355328) (hbase : base ≤ w.heap.size)
    (h : ∀ v' w', OW w' base v' (bs ++ zs) → Below base w w' → wpList Try.prog ops Q rest (act.put o.dst v') w') : wpList Try.prog ops Q (o :: rest) act w := by
  obtain ⟨v', w', hr, h1, h2⟩ := run_append_ow o.type base v bs hown ad m c zs hb hlen hbase
  refine wpList_plain hgd fun K hK => ?_
  unfold Oper.wp execOp
  simp only [ho, resolve, invoke, builtin, Sem.run_bind, Sem.run_pure, Result.andThen_ok, List.map_toArray, List.map_cons, List.map_nil, hs, hx, hr]
  exact hK _ _ (h v' w' h1 h2)
theorem wp_append_ow {w : World} {o : Oper} {act : Act} {K : Act → World → Prop} {Q : Exit → Act → World → Prop} (d : Option Tmp) (hd : o.dst = d) (s x : Operand)
    (ho : o.op = .call { callee := .builtin .append, args := #[s, x], argTypes := #[23, 23] })
    (base : Nat) (v : Value) (bs : List Int) (hs : act.eval s = v) (hown : OW w base v bs) (ad : Option Addr) (m c : Nat) (zs : List Int) (hx : act.eval x = .slice ad m c) (hb : BV w ad m zs)
    (hlen : bs.length + m ≤ 140737488355328) (hbase : base ≤ w.heap.size)
    (h : ∀ v' w', OW w' base v' (bs ++ zs) → Below base w w' → K (act.put d v') w') : o.wp Try.prog act w K Q := by
  obtain ⟨v', w', hr, h1, h2⟩ := run_append_ow o.type base v bs hown ad m c zs hb hlen hbase
  subst hd
  unfold Oper.wp execOp
  simp only [ho, resolve, invoke, builtin, Sem.run_bind, Sem.run_pure, Result.andThen_ok, List.map_toArray, List.map_cons, List.map_nil, hs, hx, hr]
  exact h v' w' h1 h2
theorem want {b : Bool} {p q : Prop} (h : b = true) (hp : p) : if b = true then p else q := by rw [if_pos h]; exact hp
theorem BV.one1 (w : World) (c : Int) (h0 : 0 ≤ c) (h1 : c ≤ 255) : BV (w.alloc (.cells #[.int .u8 c] 5)) (some ⟨w.heap.size, 0, none⟩) 1 [c] := by
  refine ⟨rfl, by simp; omega, .inr ⟨_, _, rfl, fun i hi => ?_⟩⟩
  obtain rfl : i = 0 := by omega
  rw [World.cell?_alloc_at (hn := rfl)]; rfl
/-- a slice of bytes that came in, and is nil, has no room -/
theorem none_cap {w : World} {a : Option Addr} {len cap : Nat} {zs : List Int}
    (h : (a = none ∧ len = 0 ∧ cap = 0 ∧ zs = []) ∨ ∃ x, a = some x ∧ len ≤ cap ∧ cap ≤ maxLen ∧ zs.length = cap ∧ (∀ i, i < zs.length → w.cell? (x.add i) = some (.int .u8 (zs.getD i 0))) ∧ ∀ n ∈ zs, (Lit.int .u8 n).wf = true) : a = none → cap = 0 := by
  rintro rfl
  rcases h with ⟨_, _, rfl, _⟩ | ⟨x, hx, _⟩
  · rfl
  · cases hx
theorem sizeB (w : World) : (sizeOf (Try.prog.elem 23)).run Try.prog w = .ok 1 w := by kernel_rfl
theorem underB : Try.prog.underlying 23 = some (.slice (Try.prog.elem 23)) := by kernel_rfl
theorem addr_zero (a : Addr) : a.add 0 = a := by obtain ⟨b, o, s⟩ := a; unfold Addr.add; split <;> simp_all
/-- a beginning of a slice of bytes -/
theorem slice_hi (a : Option Addr) (len cap : Nat) (h : Int) (h0 : 0 ≤ h) (h1 : h ≤ cap) (w : World) : (Instr.slice 23 (.slice a len cap) none (some (.int .i64 h)) none).run Try.prog w = .ok (.slice a h.toNat cap) w := by
  rw [run_slice_h w 23 a len cap underB .i64 h h0 h1, sizeB]
  simp only [Result.andThen, sliced, Nat.zero_mul, Nat.sub_zero]
  have : (a.map fun x => x.add 0) = a := by cases a <;> simp [addr_zero]
  rw [this]
  split <;> rfl
end Go.Proofs.Ytmoppmifhhnolaa
