/- The order of values is one, as the order of rows wants it. -/
import Derived.Test.YtllgnafbemmcaaaS4p
import Derived.Test.YtllgnafbemmcaaaV3o
namespace Go.Proofs.Ytllgnafbemmcaaa
set_option linter.unusedVariables false

/-- a value of a type -/
def okV (t : Int) (v : Int × ByteArray) : Prop := (t = 1 ∨ t = 2 ∨ t = 3) ∧ fitsB t v.1 v.2 = true ∧ (-9223372036854775808 ≤ v.1 ∧ v.1 ≤ 9223372036854775807)
/-- the order of two values of a type -/
def cV (t : Int) (a b : Int × ByteArray) : Int := cmpV t a.1 a.2 b.1 b.2
theorem cV_ord : OrdC okV cV where
  anti := fun t a b ha hb => (cmpV_all ha.1 ha.2.1 hb.2.1 hb.2.1 ha.2.2 hb.2.2).anti
  down := fun t a b d ha hb hd => (cmpV_all ha.1 ha.2.1 hb.2.1 hd.2.1 ha.2.2 hb.2.2).down
  zero := fun t a b d ha hb hd => (cmpV_all ha.1 ha.2.1 hb.2.1 hd.2.1 ha.2.2 hb.2.2).zero
theorem cV_eq {t : Int} {a b : Int × ByteArray} (ha : okV t a) (hb : okV t b) : cV t a b = 0 ↔ a = b := by
  have h := (cmpV_all ha.1 ha.2.1 hb.2.1 hb.2.1 ha.2.2 hb.2.2).same
  exact h.trans ⟨fun e => Prod.ext e.1 e.2, fun e => by rw [e]; exact ⟨rfl, rfl⟩⟩
/-- the order of two rows, by their first columns -/
def cR (ts : List Int) (a b : List (Int × ByteArray)) : Int := cmpRow cV ts a b
theorem cmpRow_rng {α : Type} {c : Int → α → α → Int} (hc : ∀ t a b, c t a b = -1 ∨ c t a b = 0 ∨ c t a b = 1) : ∀ ts (l r : List α), cmpRow c ts l r = -1 ∨ cmpRow c ts l r = 0 ∨ cmpRow c ts l r = 1
  | [], l, r => by simp [cmpRow]
  | t :: ts, [], r => by simp [cmpRow]
  | t :: ts, a :: l, [] => by simp [cmpRow]
  | t :: ts, a :: l, b :: r => by
    rw [cmpRow]
    split
    · exact cmpRow_rng hc ts l r
    · exact hc t a b
theorem cR_rng (ts : List Int) (a b : List (Int × ByteArray)) : cR ts a b = -1 ∨ cR ts a b = 0 ∨ cR ts a b = 1 := cmpRow_rng (fun t x y => cmpV_rng t x.1 x.2 y.1 y.2) ts a b
end Go.Proofs.Ytllgnafbemmcaaa
