/- Regions that leave their order open: memory only grows in them. -/
import Derived.Test.YtmoppmifhhnolaaC
import Derived.Deep.RegionHeld3
namespace Go.Proofs.Ytmoppmifhhnolaa
open Go.ChangeShapes Go.WideShapes Go.ChangeAt Go.RowKit
set_option linter.unusedVariables false

/-- w has all that V had -/
def Ext (V w : World) : Prop := ∀ b i v, V.cell? ⟨b, i, none⟩ = some v → w.cell? ⟨b, i, none⟩ = some v
theorem Ext.refl (V : World) : Ext V V := fun _ _ _ h => h
theorem Ext.trans {a b c : World} (h1 : Ext a b) (h2 : Ext b c) : Ext a c := fun x i v h => h2 x i v (h1 x i v h)
theorem Ext.alloc {V w : World} (h : Ext V w) (o : Obj) : Ext V (w.alloc o) := fun x i v hc => cell_alloc w o (h x i v hc)
theorem Ext.drew {V w : World} (h : Ext V w) : Ext V w.drew := h
theorem BV.ext {V w : World} {a : Option Addr} {n : Nat} {zs : List Int} (h : BV V a n zs) (he : Ext V w) : BV w a n zs := h.mono he

theorem held_mono {P : Program} {md : Region.Mode} {ops : Array Oper} {Q : Exit → Act → World → Prop} {S S' : World → Prop} (hS : ∀ w, S' w → S w) :
    ∀ (fuel : Nat) (listed : Array Bool) (a : Act) (w : World), wpAnyH P md ops Q S' fuel listed a w → wpAnyH P md ops Q S fuel listed a w
  | 0, _, _, _, h => h
  | fuel + 1, _, _, _, h => ⟨h.1, fun i hi => wpOp_mono (fun a' w' h' => ⟨hS _ h'.1, held_mono hS fuel _ a' w' h'.2⟩) (h.2 i hi)⟩

/-- from here on memory has at least what it has now -/
theorem held_now {P : Program} {md : Region.Mode} {ops : Array Oper} {Q : Exit → Act → World → Prop} {V : World} {fuel : Nat} {listed : Array Bool} {a : Act} {w : World}
    (he : Ext V w) (h : Ext w w → wpAnyH P md ops Q (Ext w) fuel listed a w) : wpAnyH P md ops Q (Ext V) fuel listed a w :=
  held_mono (fun _ h' => he.trans h') fuel listed a w (h (Ext.refl w))

/-- an operation that yields now is taken first; d: where it lays its value -/
theorem take_at {P : Program} {md : Region.Mode} {ops : Array Oper} {Q : Exit → Act → World → Prop} {S : World → Prop} {i : Nat} {oi : Oper} {v : Value} {fuel : Nat} {listed : Array Bool} {a : Act} {w : World}
    (d : Option Tmp) (hi : ops[i]? = some oi) (hs : Region.noSelect ops = true) (hf : Region.free md ops listed i = true) (hr : (Region.ready md ops listed).contains i = true) (hd : oi.dst = d)
    (hQ : ∀ c a w, Q (.panic c) (a.put d v) w → Q (.panic c) a w) (hy : YieldsIf P ops S oi v a) (hS : S w)
    (h : wpAnyH P md ops Q S fuel (listed.setIfInBounds i true) (a.put d v) w) : wpAnyH P md ops Q S (fuel + 1) listed a w := by
  subst hd
  exact wpAnyH_take hi hs hf hr hQ hy hS h
theorem Ext.below {V w : World} (h : Below V.heap.size V w) : Ext V w := fun b i v hc => by rw [h.cell (p := ⟨b, i, none⟩) (cell_lt hc)]; exact hc
theorem strOfNums_inj {a b : List Int} (ha : ∀ z ∈ a, 0 ≤ z ∧ z ≤ 255) (hb : ∀ z ∈ b, 0 ≤ z ∧ z ≤ 255) (h : strOfNums a = strOfNums b) : a = b := by
  have h1 : (a.map fun n => UInt8.ofNat n.toNat) = b.map fun n => UInt8.ofNat n.toNat := by rw [← strOfNums_data, ← strOfNums_data, h]
  clear h
  induction a generalizing b with
  | nil => cases b with
    | nil => rfl
    | cons y b => simp at h1
  | cons x a ih => cases b with
    | nil => simp at h1
    | cons y b =>
      simp only [List.map_cons, List.cons.injEq] at h1
      have hx := ha x (List.mem_cons_self ..)
      have hy := hb y (List.mem_cons_self ..)
      have e : x.toNat = y.toNat := by
        have := congrArg UInt8.toNat h1.1
        simp at this; omega
      rw [show x = y from by omega, ih (fun z hz => ha z (List.mem_cons_of_mem _ hz)) (fun z hz => hb z (List.mem_cons_of_mem _ hz)) h1.2]

theorem toList_inj {a b : ByteArray} (h : a.toList = b.toList) : a = b := by
  rw [ByteArray.toList_eq, ByteArray.toList_eq] at h
  obtain ⟨⟨l⟩⟩ := a
  obtain ⟨⟨m⟩⟩ := b
  have h' : l = m := h
  rw [h']
end Go.Proofs.Ytmoppmifhhnolaa
