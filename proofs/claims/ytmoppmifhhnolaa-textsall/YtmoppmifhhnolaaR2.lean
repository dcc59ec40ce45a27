/- Regions that leave their order open, of which something is known till one of their operations has come up (a store, an append): loads may be taken first till then. -/
import Derived.Test.YtmoppmifhhnolaaR
namespace Go.Proofs.Ytmoppmifhhnolaa
open Go.ChangeShapes Go.WideShapes Go.ChangeAt Go.RowKit
set_option linter.unusedVariables false

section
variable {P : Program} {ops : Array Oper} {Q : Exit → Act → World → Prop} {md : Region.Mode} {T U : World → Prop} {p : Nat}
/-- T holds, unless number p has come up -/
def Till (p : Nat) (T : World → Prop) (l : Array Bool) (w : World) : Prop := l.getD p false = true ∨ T w
/-- whatever order is picked from here on, and T holds behind every operation, till number p has come up -/
def wpAnyG (P : Program) (md : Region.Mode) (ops : Array Oper) (Q : Exit → Act → World → Prop) (p : Nat) (T : World → Prop) : Nat → Array Bool → Act → World → Prop
  | 0, l, a, w => Region.ready md ops l = [] ∧ Q .normal a w
  | fuel + 1, l, a, w =>
    (Region.ready md ops l = [] → Q .normal a w) ∧
    ∀ i ∈ Region.ready md ops l, wpOp P ops Q i (fun a' w' => Till p T (l.setIfInBounds i true) w' ∧ wpAnyG P md ops Q p T fuel (l.setIfInBounds i true) a' w') a w
theorem wpAny_of_G : ∀ (fuel : Nat) (l : Array Bool) (a : Act) (w : World), wpAnyG P md ops Q p T fuel l a w → wpAny P md ops Q fuel l a w
  | 0, _, _, _, h => h
  | fuel + 1, _, _, _, h => ⟨h.1, fun i hi => wpOp_mono (fun a' w' h' => wpAny_of_G fuel _ a' w' h'.2) (h.2 i hi)⟩
theorem wpAnyG_mono (hT : ∀ w, U w → T w) : ∀ (fuel : Nat) (l : Array Bool) (a : Act) (w : World), wpAnyG P md ops Q p U fuel l a w → wpAnyG P md ops Q p T fuel l a w
  | 0, _, _, _, h => h
  | fuel + 1, _, _, _, h => ⟨h.1, fun i hi => wpOp_mono (fun a' w' h' => ⟨h'.1.elim .inl (fun x => .inr (hT _ x)), wpAnyG_mono hT fuel _ a' w' h'.2⟩) (h.2 i hi)⟩
/-- what has come up has come up behind all that it waits for -/
def Closed (md : Region.Mode) (ops : Array Oper) (l : Array Bool) : Prop :=
  l.size = ops.size ∧ ∀ j o, ops[j]? = some o → l.getD j false = true → ∀ e ∈ o.after, Region.binds md e = true → l.getD e.on false = true
def closedB (md : Region.Mode) (ops : Array Oper) (l : Array Bool) : Bool :=
  l.size == ops.size && (List.range ops.size).all fun j => !l.getD j false || ((ops[j]?).map (·.after.all fun e => !Region.binds md e || l.getD e.on false)).getD true
theorem closed_of {l : Array Bool} (h : closedB md ops l = true) : Closed md ops l := by
  rw [closedB, Bool.and_eq_true, beq_iff_eq] at h
  refine ⟨h.1, ?_⟩
  intro j o ho hj e he hb
  have h1 := List.all_eq_true.1 h.2 j (List.mem_range.2 (Array.getElem?_eq_some_iff.1 ho).1)
  rw [ho, hj] at h1
  simp only [Bool.not_true, Bool.false_or, Option.map_some, Option.getD_some] at h1
  have h2 := Array.all_eq_true'.1 h1 e he
  rw [hb] at h2
  simpa using h2
theorem closed_step {l : Array Bool} {j : Nat} (hc : Closed md ops l) (hj : j ∈ Region.ready md ops l) : Closed md ops (l.setIfInBounds j true) := by
  refine ⟨by rw [Array.size_setIfInBounds]; exact hc.1, ?_⟩
  intro k o ho hk e he hb
  by_cases hjk : j = k
  · subst hjk
    obtain ⟨_, o', ho', hall⟩ := mem_ready.1 hj
    rw [ho] at ho'; cases ho'
    exact getD_set_true (hall e he hb)
  · rw [getD_set_ne false hjk] at hk
    exact getD_set_true (hc.2 k o ho hk e he hb)
/-- each of these waits for the next one -/
def hops (md : Region.Mode) (ops : Array Oper) : List Nat → Bool
  | a :: b :: r => ((ops[a]?).map (·.after.any fun e => Region.binds md e && e.on == b)).getD false && hops md ops (b :: r)
  | _ => true
theorem closed_hops {l : Array Bool} (hc : Closed md ops l) : ∀ (ks : List Nat) (a i : Nat), hops md ops (a :: ks) = true → (a :: ks).getLast? = some i → l.getD a false = true → l.getD i false = true
  | [], a, i, _, hl, h => by cases hl; exact h
  | b :: r, a, i, hh, hl, h => by
    rw [hops, Bool.and_eq_true] at hh
    refine closed_hops hc r b i hh.2 (by simpa using hl) ?_
    cases ho : ops[a]? with
    | none => rw [ho] at hh; simp at hh
    | some o =>
      rw [ho] at hh
      simp only [Option.map_some, Option.getD_some, Array.any_eq_true'] at hh
      obtain ⟨⟨e, he, hb⟩, _⟩ := hh
      simp only [Bool.and_eq_true, beq_iff_eq] at hb
      rw [← hb.2]
      exact hc.2 a o ho h e he hb.1
theorem wpAnyG_first {i : Nat} {oi : Oper} {v : Value} (hi : ops[i]? = some oi) (hsel : ∀ (j : Nat) (o : Oper) cs b, ops[j]? = some o → o.op ≠ .select cs b)
    (hQ : ∀ c a w, Q (.panic c) (a.put oi.dst v) w → Q (.panic c) a w) (hip : i ≠ p) (hU : ∀ l w, Closed md ops l → l.getD i true = false → Till p T l w → U w) :
    ∀ (fuel : Nat) (l : Array Bool) (a : Act) (w : World), Closed md ops l →
      (∀ j oj, ops[j]? = some oj → j ≠ i → l.getD j true = false → (∀ e ∈ oj.after, Region.binds md e = true → e.on ≠ i) → oi.apart ops oj = true) →
      i ∈ Region.ready md ops l → YieldsIf P ops U oi v a → Till p T l w →
      wpAnyG P md ops Q p T fuel (l.setIfInBounds i true) (a.put oi.dst v) w → wpAnyG P md ops Q p T (fuel + 1) l a w := by
  have up : ∀ {l : Array Bool} {w : World}, Till p T l w → Till p T (l.setIfInBounds i true) w := fun h => h.elim (fun h => .inl (getD_set_true h)) .inr
  intro fuel
  induction fuel with
  | zero =>
    intro l a w hc _ hr hy hS H
    refine ⟨fun h => (by rw [h] at hr; cases hr), fun j hj => ?_⟩
    by_cases hji : j = i
    · subst hji; exact hy.wpOp hi (hU l w hc (mem_ready.1 hr).1 hS) ⟨up hS, H⟩
    · have := ready_mono hj hji
      rw [H.1] at this
      cases this
  | succ fuel ih =>
    intro l a w hc hfree hr hy hS H
    refine ⟨fun h => (by rw [h] at hr; cases hr), fun j hj => ?_⟩
    by_cases hji : j = i
    · subst hji; exact hy.wpOp hi (hU l w hc (mem_ready.1 hr).1 hS) ⟨up hS, H⟩
    · have h1 := H.2 j (ready_mono hj hji)
      obtain ⟨hjun, oj, hoj, hall⟩ := mem_ready.1 hj
      have hnot : ∀ e ∈ oj.after, Region.binds md e = true → e.on ≠ i := fun e he hb heq => by
        have h1 := hall e he hb
        have h0 := (mem_ready.1 hr).1
        rw [heq] at h1
        rcases Nat.lt_or_ge i l.size with h' | h'
        · simp [h'] at h0 h1; rw [h0] at h1; cases h1
        · simp [Array.getElem?_eq_none h'] at h1
      have h2 := wpOp_putIf hoj (hfree j oj hoj hji hjun hnot) (fun cs b => hsel i oi cs b hi) (fun cs b => hsel j oj cs b hoj) hQ hy h1
      have hfree' : ∀ k ok, ops[k]? = some ok → k ≠ i → (l.setIfInBounds j true).getD k true = false →
          (∀ e ∈ ok.after, Region.binds md e = true → e.on ≠ i) → oi.apart ops ok = true := fun k ok hk hki hun hno => by
        refine hfree k ok hk hki ?_ hno
        by_cases hjk : j = k
        · subst hjk; exact hjun
        · rw [getD_set_ne true hjk] at hun; exact hun
      refine wpOp_mono (fun a' w' h3 => ?_) h2
      have hS' : Till p T (l.setIfInBounds j true) w' := h3.2.1.elim (fun h => .inl (by rw [Array.setIfInBounds_comm _ _ (Ne.symm hji), getD_set_ne false hip] at h; exact h)) .inr
      refine ⟨hS', ih (l.setIfInBounds j true) a' w' (closed_step hc hj) hfree' (ready_mono hr (Ne.symm hji)) h3.1 hS' ?_⟩
      rw [Array.setIfInBounds_comm _ _ hji]
      exact h3.2.2
/-- an operation that yields while T holds is taken first: number p waits for it -/
theorem take_g {i : Nat} {oi : Oper} {v : Value} {fuel : Nat} {l : Array Bool} {a : Act} {w : World} (ks : List Nat) (d : Option Tmp) (hi : ops[i]? = some oi)
    (hb : (Region.noSelect ops && Region.free md ops l i && (Region.ready md ops l).contains i && hops md ops (p :: ks) && (p :: ks).getLast? == some i && closedB md ops l && i != p) = true) (hd : oi.dst = d)
    (hQ : ∀ c a w, Q (.panic c) (a.put d v) w → Q (.panic c) a w) (hy : YieldsIf P ops T oi v a) (hS : Till p T l w)
    (h : wpAnyG P md ops Q p T fuel (l.setIfInBounds i true) (a.put d v) w) : wpAnyG P md ops Q p T (fuel + 1) l a w := by
  subst hd
  simp only [Bool.and_eq_true, beq_iff_eq, bne_iff_ne] at hb
  obtain ⟨⟨⟨⟨⟨⟨h1, h2⟩, h3⟩, h4⟩, h5⟩, h6⟩, h7⟩ := hb
  refine wpAnyG_first hi (Region.noSelect_spec h1) hQ h7 (fun l w hc hl hT => ?_) fuel l a w (closed_of h6) (Region.free_spec hi h2) (by simpa using h3) hy hS h
  rcases hT with hT | hT
  · have h8 := closed_hops hc ks p i h4 h5 hT
    rcases Nat.lt_or_ge i l.size with h' | h'
    · simp [h'] at h8 hl; rw [hl] at h8; cases h8
    · simp [Array.getElem?_eq_none h'] at h8
  · exact hT
/-- one that yields in whatever world -/
theorem take_w {i : Nat} {oi : Oper} {v : Value} {fuel : Nat} {l : Array Bool} {a : Act} {w : World} (d : Option Tmp) (hi : ops[i]? = some oi)
    (hb : (Region.noSelect ops && Region.free md ops l i && (Region.ready md ops l).contains i && closedB md ops l && i != p) = true) (hd : oi.dst = d)
    (hQ : ∀ c a w, Q (.panic c) (a.put d v) w → Q (.panic c) a w) (hy : YieldsIf P ops (fun _ => True) oi v a) (hS : Till p T l w)
    (h : wpAnyG P md ops Q p T fuel (l.setIfInBounds i true) (a.put d v) w) : wpAnyG P md ops Q p T (fuel + 1) l a w := by
  subst hd
  simp only [Bool.and_eq_true, bne_iff_ne] at hb
  obtain ⟨⟨⟨⟨h1, h2⟩, h3⟩, h6⟩, h7⟩ := hb
  exact wpAnyG_first hi (Region.noSelect_spec h1) hQ h7 (fun l w hc hl hT => trivial) fuel l a w (closed_of h6) (Region.free_spec hi h2) (by simpa using h3) hy hS h
/-- one that yields while T holds, where nothing ends T -/
theorem take_n {i : Nat} {oi : Oper} {v : Value} {fuel : Nat} {l : Array Bool} {a : Act} {w : World} (d : Option Tmp) (hi : ops[i]? = some oi)
    (hb : (Region.noSelect ops && Region.free md ops l i && (Region.ready md ops l).contains i && closedB md ops l && decide (ops.size ≤ p)) = true) (hd : oi.dst = d)
    (hQ : ∀ c a w, Q (.panic c) (a.put d v) w → Q (.panic c) a w) (hy : YieldsIf P ops T oi v a) (hS : Till p T l w)
    (h : wpAnyG P md ops Q p T fuel (l.setIfInBounds i true) (a.put d v) w) : wpAnyG P md ops Q p T (fuel + 1) l a w := by
  subst hd
  simp only [Bool.and_eq_true, decide_eq_true_eq] at hb
  obtain ⟨⟨⟨⟨h1, h2⟩, h3⟩, h6⟩, h7⟩ := hb
  have hio := (Array.getElem?_eq_some_iff.1 hi).1
  refine wpAnyG_first hi (Region.noSelect_spec h1) hQ (by omega) (fun l w hc hl hT => ?_) fuel l a w (closed_of h6) (Region.free_spec hi h2) (by simpa using h3) hy hS h
  rcases hT with hT | hT
  · rw [Array.getD_eq_getD_getElem?, Array.getElem?_eq_none (by rw [hc.1]; exact h7)] at hT; cases hT
  · exact hT
theorem Till.list {l : Array Bool} {w : World} (i : Nat) (h : Till p T l w) : Till p T (l.setIfInBounds i true) w := h.elim (fun h => .inl (getD_set_true h)) .inr
theorem done_g {l : Array Bool} {a : Act} {w : World} (hr : Region.ready md ops l = []) (h : Q .normal a w) : ∀ fuel, wpAnyG P md ops Q p T fuel l a w
  | 0 => ⟨hr, h⟩
  | _ + 1 => ⟨fun _ => h, by rw [hr]; simp⟩
theorem region_g {id : Nat} {a : Act} {w : World} (p : Nat) (T : World → Prop) (hm : P.follows .mixedOrders = true) (hT : T w.drew)
    (h : Till p T (Array.replicate ops.size false) w.drew → wpAnyG P .any ops Q p T ops.size (Array.replicate ops.size false) a w.drew) : (Code.region id ops true).wp P Q a w :=
  wp_region_any hm (wpAny_of_G _ _ _ _ (h (.inr hT)))
def AllReadyG (P : Program) (md : Region.Mode) (ops : Array Oper) (Q : Exit → Act → World → Prop) (p : Nat) (T : World → Prop) (fuel : Nat) (l : Array Bool) (a : Act) (w : World) (rs : List Nat) : Prop :=
  ∀ i ∈ rs, wpOp P ops Q i (fun a' w' => Till p T (l.setIfInBounds i true) w' ∧ wpAnyG P md ops Q p T fuel (l.setIfInBounds i true) a' w') a w
theorem AllReadyG.nil {fuel : Nat} {l : Array Bool} {a : Act} {w : World} : AllReadyG P md ops Q p T fuel l a w [] := fun _ h => by cases h
theorem AllReadyG.cons {fuel : Nat} {l : Array Bool} {a : Act} {w : World} {i : Nat} {o : Oper} {rs : List Nat} (ho : ops[i]? = some o)
    (h : ∀ K' : Act → World → Prop, Shut (∀ a w, Till p T (l.setIfInBounds i true) w → (Till p T (l.setIfInBounds i true) w → wpAnyG P md ops Q p T fuel (l.setIfInBounds i true) a w) → K' a w) → if Region.wanted o (yielded ops a.tmps) = true then Oper.wp P o a w K' Q else K' (a.put o.dst undef) w)
    (hs : AllReadyG P md ops Q p T fuel l a w rs) : AllReadyG P md ops Q p T fuel l a w (i :: rs) := fun j hj => by
  rcases List.mem_cons.1 hj with rfl | hj
  · exact wpOp_step ho (fun K' hK => h K' (fun a w hS hW => hK a w ⟨hS, hW hS⟩))
  · exact hs j hj
theorem ready_g {rs : List Nat} {fuel : Nat} {l : Array Bool} {a : Act} {w : World} (hr : Region.ready md ops l = rs) (hne : rs ≠ [])
    (h : AllReadyG P md ops Q p T fuel l a w rs) : wpAnyG P md ops Q p T (fuel + 1) l a w := ⟨fun h0 => absurd (hr ▸ h0) hne, hr ▸ h⟩
/-- from here on memory has at least what it has now -/
theorem now_g {V : World} {fuel : Nat} {l : Array Bool} {a : Act} {w : World} (he : Ext V w) (h : Till p (Ext w) l w → wpAnyG P md ops Q p (Ext w) fuel l a w) : wpAnyG P md ops Q p (Ext V) fuel l a w :=
  wpAnyG_mono (fun _ h' => he.trans h') fuel l a w (h (.inr (Ext.refl w)))
theorem now_t {V : World} {fuel : Nat} {l : Array Bool} {a : Act} {w : World} (hl : l.getD p false = false) (he : Till p (Ext V) l w) (h : Till p (Ext w) l w → wpAnyG P md ops Q p (Ext w) fuel l a w) : wpAnyG P md ops Q p (Ext V) fuel l a w :=
  now_g (he.elim (fun h => by rw [hl] at h; cases h) id) h
theorem Ext.low {V w w' : World} {base : Nat} (h : Ext V w) (hb : Below base w w') (hB : V.heap.size ≤ base) : Ext V w' := fun b i v hc => by
  have := cell_lt hc
  rw [hb.cell (p := ⟨b, i, none⟩) (by show b < base; omega)]; exact h b i v hc
theorem Till.get {l : Array Bool} {w : World} (h : Till p T l w) (hl : l.getD p false = false) : T w := h.elim (fun h => by rw [hl] at h; cases h) id
end
end Go.Proofs.Ytmoppmifhhnolaa
