/- Texts that belong together, one behind the other: D8p, D8q, D8s, D8u, D8v, D8m, D8n. -/
import Derived.Laws.BitsAll
import Derived.Lib.Hide
import Derived.Test.YtlagmjdldplblaaBase
import Derived.Maps.OwnSet
import Derived.Maps.OwnOps
import Derived.Maps.Range
import Derived.DeepKeys4
/- A disk by the document, as plain data: names, files, changes, steps; what holds of it. No memory in sight. -/
namespace Go.Proofs.Ytlagmjdldplblaa
set_option linter.unusedVariables false
set_option maxRecDepth 4000

/-- the order of names -/
def ltN (a b : ByteArray) : Bool := Op.bytesLess a.data.toList b.data.toList
theorem bl_irr : ∀ a : List UInt8, Op.bytesLess a a = false
  | [] => rfl
  | x :: a => by simp [Op.bytesLess, bl_irr a]
theorem bl_trans : ∀ a b c : List UInt8, Op.bytesLess a b = true → Op.bytesLess b c = true → Op.bytesLess a c = true
  | _, [], _, h, _ => by simp [Op.bytesLess] at h
  | _, _ :: _, [], _, h => by simp [Op.bytesLess] at h
  | [], _ :: _, _ :: _, _, _ => rfl
  | x :: a, y :: b, z :: c, h1, h2 => by
    simp only [Op.bytesLess, Bool.or_eq_true, Bool.and_eq_true, decide_eq_true_iff, beq_iff_eq] at h1 h2 ⊢
    rcases h1 with h1 | ⟨rfl, h1⟩
    · rcases h2 with h2 | ⟨rfl, h2⟩
      · exact .inl (UInt8.lt_trans h1 h2)
      · exact .inl h1
    · rcases h2 with h2 | ⟨rfl, h2⟩
      · exact .inl h2
      · exact .inr ⟨rfl, bl_trans a b c h1 h2⟩
theorem bl_total : ∀ a b : List UInt8, Op.bytesLess a b = true ∨ a = b ∨ Op.bytesLess b a = true
  | [], [] => .inr (.inl rfl)
  | [], _ :: _ => .inl rfl
  | _ :: _, [] => .inr (.inr rfl)
  | x :: a, y :: b => by
    simp only [Op.bytesLess, Bool.or_eq_true, Bool.and_eq_true, decide_eq_true_iff, beq_iff_eq, List.cons.injEq]
    rcases UInt8.lt_or_lt_of_ne (a := x) (b := y) |> fun f => (Classical.em (x = y)).imp id f with h | h | h
    · subst h
      rcases bl_total a b with h | h | h
      · exact .inl (.inr ⟨rfl, h⟩)
      · exact .inr (.inl ⟨rfl, h⟩)
      · exact .inr (.inr (.inr ⟨rfl, h⟩))
    · exact .inl (.inl h)
    · exact .inr (.inr (.inl h))
theorem ltN_irr (a : ByteArray) : ltN a a = false := bl_irr _
theorem ltN_trans {a b c : ByteArray} (h1 : ltN a b = true) (h2 : ltN b c = true) : ltN a c = true := bl_trans _ _ _ h1 h2
theorem ltN_total (a b : ByteArray) : ltN a b = true ∨ a = b ∨ ltN b a = true := by
  rcases bl_total a.data.toList b.data.toList with h | h | h
  · exact .inl h
  · exact .inr (.inl (ByteArray.ext (Array.ext' h)))
  · exact .inr (.inr h)
theorem ltN_anti {a b : ByteArray} (h1 : ltN a b = true) : ltN b a = false := by
  cases h : ltN b a
  · rfl
  · have := ltN_trans h1 h; rw [ltN_irr] at this; cases this
theorem ltN_ne {a b : ByteArray} (h1 : ltN a b = true) : a ≠ b := fun e => by rw [e, ltN_irr] at h1; cases h1

/-- a name, and its file's place -/
abbrev Nm8 := ByteArray × Nat
/-- the file's place of a name -/
def findN : List Nm8 → ByteArray → Option Nat
  | [], _ => none
  | n :: l, s => if n.1 = s then some n.2 else findN l s
def withoutN (l : List Nm8) (s : ByteArray) : List Nm8 := l.filter (fun n => decide (n.1 ≠ s))
/-- one more name, ahead of the first one that is above -/
def insN (n : Nm8) : List Nm8 → List Nm8
  | [] => [n]
  | x :: l => if ltN n.1 x.1 = true then n :: x :: l else x :: insN n l
def withN (l : List Nm8) (n : Nm8) : List Nm8 := insN n (withoutN l n.1)
/-- names in order -/
def SortN : List Nm8 → Prop
  | [] => True
  | n :: l => (∀ x ∈ l, ltN n.1 x.1 = true) ∧ SortN l

theorem findN_none {l : List Nm8} {s : ByteArray} : findN l s = none ↔ ∀ x ∈ l, x.1 ≠ s := by
  induction l with
  | nil => simp [findN]
  | cons n l ih =>
    rw [findN]
    by_cases h : n.1 = s
    · rw [if_pos h]; simp [h]
    · rw [if_neg h, ih]; simp [h]
theorem findN_mem : ∀ {l : List Nm8} {s : ByteArray} {f : Nat}, findN l s = some f → (s, f) ∈ l
  | [], s, f, h => by cases h
  | n :: l, s, f, h => by
    rw [findN] at h
    by_cases hs : n.1 = s
    · rw [if_pos hs] at h; cases h; subst hs; exact List.mem_cons_self ..
    · rw [if_neg hs] at h; exact List.mem_cons_of_mem _ (findN_mem h)
theorem findN_of : ∀ {l : List Nm8}, SortN l → ∀ {n : Nm8}, n ∈ l → findN l n.1 = some n.2
  | x :: l, h, n, hn => by
    rw [findN]
    rcases List.mem_cons.1 hn with rfl | hn
    · rw [if_pos rfl]
    · rw [if_neg (ltN_ne (h.1 n hn)), findN_of h.2 hn]
/-- names in order are told by what each name has -/
theorem sortN_one : ∀ {l k : List Nm8}, SortN l → SortN k → (∀ s, findN l s = findN k s) → l = k
  | [], [], _, _, _ => rfl
  | [], n :: k, _, _, h => by have := h n.1; rw [findN, findN, if_pos rfl] at this; cases this
  | n :: l, [], _, _, h => by have := h n.1; rw [findN, findN, if_pos rfl] at this; cases this
  | n :: l, m :: k, hl, hk, h => by
    have h1 : (n.1, n.2) ∈ m :: k := findN_mem (by rw [← h]; exact findN_of hl (List.mem_cons_self ..))
    have h2 : (m.1, m.2) ∈ n :: l := findN_mem (by rw [h]; exact findN_of hk (List.mem_cons_self ..))
    have e : n = m := by
      rcases List.mem_cons.1 h1 with h1 | h1
      · exact h1
      · rcases List.mem_cons.1 h2 with h2 | h2
        · exact h2.symm
        · have a1 := hk.1 _ h1
          have a2 := hl.1 _ h2
          rw [ltN_anti a1] at a2; cases a2
    subst e
    rw [sortN_one hl.2 hk.2 (fun s => by
      by_cases hs : n.1 = s
      · subst hs
        rw [findN_none.2 (fun x hx => (ltN_ne (hl.1 x hx)).symm), findN_none.2 (fun x hx => (ltN_ne (hk.1 x hx)).symm)]
      · have := h s; rwa [findN, findN, if_neg hs, if_neg hs] at this)]
theorem sortN_sub : ∀ {l : List Nm8} (p : Nm8 → Bool), SortN l → SortN (l.filter p)
  | [], p, h => trivial
  | n :: l, p, h => by
    rw [List.filter_cons]
    split
    · exact ⟨fun x hx => h.1 x (List.mem_filter.1 hx).1, sortN_sub p h.2⟩
    · exact sortN_sub p h.2
theorem insN_mem {n : Nm8} : ∀ {l : List Nm8} {x : Nm8}, x ∈ insN n l ↔ x = n ∨ x ∈ l
  | [], x => by simp [insN]
  | y :: l, x => by
    rw [insN]
    split
    · simp
    · rw [List.mem_cons, insN_mem, List.mem_cons, ← or_assoc, ← or_assoc, or_comm (a := x = y)]
theorem insN_sort {n : Nm8} : ∀ {l : List Nm8}, SortN l → (∀ x ∈ l, x.1 ≠ n.1) → SortN (insN n l)
  | [], _, _ => ⟨(fun x hx => by cases hx), trivial⟩
  | y :: l, h, hn => by
    rw [insN]
    split
    · rename_i hlt
      exact ⟨fun x hx => by
        rcases List.mem_cons.1 hx with rfl | hx
        · exact hlt
        · exact ltN_trans hlt (h.1 x hx), h⟩
    · rename_i hlt
      refine ⟨fun x hx => ?_, insN_sort h.2 (fun x hx => hn x (List.mem_cons_of_mem _ hx))⟩
      rcases insN_mem.1 hx with rfl | hx
      · rcases ltN_total x.1 y.1 with e | e | e
        · exact absurd e hlt
        · exact absurd e.symm (hn y (List.mem_cons_self ..))
        · exact e
      · exact h.1 x hx
theorem withoutN_sort {l : List Nm8} (h : SortN l) (s : ByteArray) : SortN (withoutN l s) := sortN_sub _ h
theorem withoutN_mem {l : List Nm8} {s : ByteArray} {x : Nm8} : x ∈ withoutN l s ↔ x ∈ l ∧ x.1 ≠ s := by
  unfold withoutN; rw [List.mem_filter, decide_eq_true_iff]
theorem withN_sort {l : List Nm8} (h : SortN l) (n : Nm8) : SortN (withN l n) := insN_sort (withoutN_sort h _) (fun x hx => (withoutN_mem.1 hx).2)
theorem withN_mem {l : List Nm8} {n x : Nm8} : x ∈ withN l n ↔ x = n ∨ (x ∈ l ∧ x.1 ≠ n.1) := by rw [withN, insN_mem, withoutN_mem]
theorem findN_without {s t : ByteArray} : ∀ {l : List Nm8}, findN (withoutN l s) t = if t = s then none else findN l t
  | [] => by simp [withoutN, findN]
  | n :: l => by
    have ih := findN_without (s := s) (t := t) (l := l)
    unfold withoutN at ih ⊢
    rw [List.filter_cons]
    by_cases h : n.1 = s
    · rw [if_neg (by simp [h]), ih, findN]
      by_cases ht : t = s
      · rw [if_pos ht, if_pos ht]
      · rw [if_neg ht, if_neg ht, if_neg (fun e => ht (by rw [← e, h]))]
    · rw [if_pos (by simp [h]), findN, findN, ih]
      by_cases ht : t = s
      · subst ht; rw [if_neg h, if_pos rfl, if_pos rfl]
      · rw [if_neg ht, if_neg ht]
theorem findN_ins {n : Nm8} {t : ByteArray} : ∀ {l : List Nm8}, (∀ x ∈ l, x.1 ≠ n.1) → findN (insN n l) t = if t = n.1 then some n.2 else findN l t
  | [], _ => by
    rw [insN, findN, findN]
    by_cases h : n.1 = t
    · rw [if_pos h, if_pos h.symm]
    · rw [if_neg h, if_neg (fun e => h e.symm)]; rfl
  | y :: l, hn => by
    rw [insN]
    split
    · rw [findN]
      by_cases h : n.1 = t
      · rw [if_pos h, if_pos h.symm]
      · rw [if_neg h, if_neg (fun e => h e.symm)]
    · rw [findN, findN_ins (fun x hx => hn x (List.mem_cons_of_mem _ hx)), findN]
      have hy := hn y (List.mem_cons_self ..)
      by_cases h : t = n.1
      · subst h; rw [if_neg hy, if_pos rfl, if_pos rfl]
      · rw [if_neg h, if_neg h]
theorem findN_with {l : List Nm8} {n : Nm8} {t : ByteArray} : findN (withN l n) t = if t = n.1 then some n.2 else findN l t := by
  rw [withN, findN_ins (fun x hx => (withoutN_mem.1 hx).2), findN_without]
  by_cases h : t = n.1
  · rw [if_pos h, if_pos h]
  · rw [if_neg h, if_neg h, if_neg h]
theorem withoutN_len (l : List Nm8) (s : ByteArray) : (withoutN l s).length ≤ l.length := List.length_filter_le _ _
theorem insN_len (n : Nm8) : ∀ l : List Nm8, (insN n l).length = l.length + 1
  | [] => rfl
  | y :: l => by rw [insN]; split <;> simp [insN_len n l]
theorem withN_len (l : List Nm8) (n : Nm8) : (withN l n).length ≤ l.length + 1 := by rw [withN, insN_len]; have := withoutN_len l n.1; omega
theorem withoutN_all {l : List Nm8} {s : ByteArray} (h : ∀ x ∈ l, x.1 ≠ s) : withoutN l s = l := List.filter_eq_self.2 (fun x hx => by simpa using h x hx)
theorem withN_new {l : List Nm8} {n : Nm8} (h : findN l n.1 = none) : (withN l n).length = l.length + 1 := by rw [withN, insN_len, withoutN_all (findN_none.1 h)]

/-- a file: its bytes, and how many of them are safe -/
abbrev Fl8 := List Int × Nat
/-- what became of names: gone from, and there as -/
structure Ch8 where
  frm : Option ByteArray
  to : Option Nm8
def goneN (l : List Nm8) : Option ByteArray → List Nm8
  | some s => withoutN l s
  | none => l
def putN (l : List Nm8) : Option Nm8 → List Nm8
  | some n => withN l n
  | none => l
def doneN (l : List Nm8) (c : Ch8) : List Nm8 := putN (goneN l c.frm) c.to
structure DK where
  quota : Int
  taken : Nat
  files : List Fl8
  names : List Nm8
  kept : List Nm8
  chs : List Ch8
  fails : List Int
  limit : Option Nat
  dead : Bool
def newD (quota : Int) : DK := ⟨max quota 0, 0, [], [], [], [], [], none, false⟩
def flN (M : DK) (f : Nat) : Fl8 := M.files.getD f ([], 0)
/-- takes a step: what is told at once, or OK -/
def stepD (M : DK) : DK × Int :=
  if M.dead = true ∨ (∃ n, M.limit = some n ∧ n ≤ M.taken) then ({ M with dead := true }, 34)
  else ({ M with taken := M.taken + 1 }, if ((M.taken + 1 : Nat) : Int) ∈ M.fails then 33 else 0)
def changeD (M : DK) (c : Ch8) : DK := { M with names := doneN M.names c, chs := M.chs ++ [c] }
def okName (s : ByteArray) : Bool := decide (1 ≤ s.size ∧ s.size ≤ 20)
/-- the file's place of a new name -/
def createdD (M : DK) (s : ByteArray) : DK × Int :=
  if okName s = false then (M, 1)
  else if findN M.names s ≠ none then (M, 31)
  else if 200 ≤ M.names.length then (M, 32)
  else (changeD { M with files := M.files ++ [([], 0)] } ⟨none, some (s, M.files.length)⟩, 0)
def usedL (files : List Fl8) (names : List Nm8) : Nat := (names.map (fun n => (files.getD n.2 ([], 0)).1.length)).sum
def usedD (M : DK) : Nat := usedL M.files M.names
def putD (M : DK) (f : Nat) (x : Fl8) : DK := { M with files := M.files.set f x }
/-- bytes behind those of a file -/
def appendedD (M : DK) (e : Int) (s : ByteArray) (b : List Int) : DK × Int :=
  match findN M.names s with
  | none => (M, if e = 33 then 33 else 30)
  | some f =>
    if ((usedD M + b.length : Nat) : Int) ≤ M.quota then
      (putD M f ((flN M f).1 ++ (if e = 33 then b.take (b.length / 2) else b), (flN M f).2), e)
    else (M, if e = 33 then 33 else 32)
def syncedD (M : DK) (s : ByteArray) : DK × Int :=
  match findN M.names s with
  | none => (M, 30)
  | some f => (putD M f ((flN M f).1, (flN M f).1.length), 0)
def keptD (M : DK) : DK := { M with kept := M.names, chs := [] }
def renamedD (M : DK) (s t : ByteArray) : DK × Int :=
  if okName t = false then (M, 1)
  else match findN M.names s with
    | none => (M, 30)
    | some f => (changeD M ⟨some s, some (t, f)⟩, 0)
def removedD (M : DK) (s : ByteArray) : DK × Int :=
  match findN M.names s with
  | none => (M, 30)
  | some f => (changeD M ⟨some s, none⟩, 0)
/-- a step, and what is done if it is told OK -/
def thenD (M : DK) (g : DK → DK × Int) : DK × Int := if (stepD M).2 = 0 then g (stepD M).1 else stepD M
def createD (M : DK) (s : ByteArray) : DK × Int := thenD M (fun M => createdD M s)
def appendD (M : DK) (s : ByteArray) (b : List Int) : DK × Int := if (stepD M).2 = 34 then stepD M else appendedD (stepD M).1 (stepD M).2 s b
def syncD (M : DK) (s : ByteArray) : DK × Int := thenD M (fun M => syncedD M s)
def syncDirD (M : DK) : DK × Int := thenD M (fun M => (keptD M, 0))
def renameD (M : DK) (s t : ByteArray) : DK × Int := thenD M (fun M => renamedD M s t)
def removeD (M : DK) (s : ByteArray) : DK × Int := thenD M (fun M => removedD M s)
def failD (M : DK) (l : List Int) : DK := { M with fails := l }
def limitD (M : DK) (n : Int) : DK := { M with limit := some (max n 0).toNat }
def readD (M : DK) (s : ByteArray) : List Int × Int :=
  if M.dead = true then ([], 34)
  else match findN M.names s with
    | none => ([], 30)
    | some f => ((flN M f).1, 0)
def textsD (M : DK) : List ByteArray := M.names.map (fun n => n.1)
/-- how many of the n bytes that are not safe are found, of the i-th name -/
def tailD (tails : List Int) (i n : Nat) : Nat := if tails = [] then 0 else (tails.getD (i % tails.length) 0 % ((n : Int) + 1)).toNat
def foundL (files : List Fl8) (tails : List Int) : Nat → List Nm8 → List Fl8
  | _, [] => []
  | i, n :: l => (let x := files.getD n.2 ([], 0); let k := x.2 + tailD tails i (x.1.length - x.2); (x.1.take k, k)) :: foundL files tails (i + 1) l
def numberN : Nat → List Nm8 → List Nm8
  | _, [] => []
  | i, n :: l => (n.1, i) :: numberN (i + 1) l
/-- the names that are found behind a crash -/
def leftD (M : DK) (changes : Int) : List Nm8 := (M.chs.take changes.toNat).foldl doneN M.kept
def crashD (M : DK) (changes : Int) (tails : List Int) : DK :=
  ⟨M.quota, 0, foundL M.files tails 0 (leftD M changes), numberN 0 (leftD M changes), numberN 0 (leftD M changes), [], [], none, false⟩

/-- each file has one name -/
def OneN (l : List Nm8) : Prop := ∀ n ∈ l, ∀ m ∈ l, n.2 = m.2 → n.1 = m.1
/-- what always holds of a disk -/
structure OkD (M : DK) : Prop where
  quota : 0 ≤ M.quota
  sort : SortN M.names
  keep : SortN M.kept
  place : ∀ n ∈ M.names, n.2 < M.files.length
  kplace : ∀ n ∈ M.kept, n.2 < M.files.length
  cplace : ∀ c ∈ M.chs, ∀ n, c.to = some n → n.2 < M.files.length
  safe : ∀ x ∈ M.files, x.2 ≤ x.1.length
  now : M.names = M.chs.foldl doneN M.kept
  one : OneN M.names
theorem goneN_sort {l : List Nm8} (h : SortN l) : ∀ o, SortN (goneN l o)
  | some s => withoutN_sort h s
  | none => h
theorem putN_sort {l : List Nm8} (h : SortN l) : ∀ o, SortN (putN l o)
  | some n => withN_sort h n
  | none => h
theorem doneN_sort {l : List Nm8} (h : SortN l) (c : Ch8) : SortN (doneN l c) := putN_sort (goneN_sort h _) _
theorem goneN_mem {l : List Nm8} {x : Nm8} : ∀ {o}, x ∈ goneN l o → x ∈ l
  | some s, h => (withoutN_mem.1 h).1
  | none, h => h
theorem putN_mem {l : List Nm8} {x : Nm8} : ∀ {o}, x ∈ putN l o → x ∈ l ∨ o = some x
  | some n, h => by
    rcases withN_mem.1 h with rfl | h
    · exact .inr rfl
    · exact .inl h.1
  | none, h => .inl h
theorem doneN_mem {l : List Nm8} {c : Ch8} {x : Nm8} (h : x ∈ doneN l c) : x ∈ l ∨ c.to = some x := (putN_mem h).imp goneN_mem id
theorem findN_gone {l : List Nm8} {t : ByteArray} : ∀ {o : Option ByteArray}, o ≠ some t → findN (goneN l o) t = findN l t
  | some s, h => by rw [goneN, findN_without, if_neg (fun e => h (by rw [e]))]
  | none, _ => rfl
theorem findN_put {l : List Nm8} {t : ByteArray} : ∀ {o : Option Nm8}, (∀ n, o = some n → n.1 ≠ t) → findN (putN l o) t = findN l t
  | some n, h => by rw [putN, findN_with, if_neg (fun e => h n rfl e.symm)]
  | none, _ => rfl
/-- a change that is of other names -/
def Else8 (t : ByteArray) (c : Ch8) : Prop := c.frm ≠ some t ∧ ∀ n, c.to = some n → n.1 ≠ t
theorem findN_done {l : List Nm8} {t : ByteArray} {c : Ch8} (h : Else8 t c) : findN (doneN l c) t = findN l t := by rw [doneN, findN_put h.2, findN_gone h.1]
theorem findN_fold {t : ByteArray} : ∀ (cs : List Ch8) {l : List Nm8}, (∀ c ∈ cs, Else8 t c) → findN (cs.foldl doneN l) t = findN l t
  | [], _, _ => rfl
  | c :: cs, l, h => by rw [List.foldl_cons, findN_fold cs (fun d hd => h d (List.mem_cons_of_mem _ hd)), findN_done (h c (List.mem_cons_self ..))]
theorem foldN_sort : ∀ (cs : List Ch8) {l : List Nm8}, SortN l → SortN (cs.foldl doneN l)
  | [], _, h => h
  | c :: cs, _, h => foldN_sort cs (doneN_sort h c)
theorem foldN_mem : ∀ (cs : List Ch8) {l : List Nm8} {x : Nm8}, x ∈ cs.foldl doneN l → x ∈ l ∨ ∃ c ∈ cs, c.to = some x
  | [], _, _, h => .inl h
  | c :: cs, l, x, h => by
    rcases foldN_mem cs h with h | ⟨d, hd, h⟩
    · rcases doneN_mem h with h | h
      · exact .inl h
      · exact .inr ⟨c, List.mem_cons_self .., h⟩
    · exact .inr ⟨d, List.mem_cons_of_mem _ hd, h⟩
theorem okD_new (quota : Int) : OkD (newD quota) := by
  refine ⟨by simp only [newD]; omega, trivial, trivial, ?_, ?_, ?_, ?_, rfl, ?_⟩
  · intro n hn; cases hn
  · intro n hn; cases hn
  · intro c hc; cases hc
  · intro x hx; cases hx
  · intro n hn; cases hn
theorem okD_left {M : DK} (h : OkD M) (changes : Int) : SortN (leftD M changes) ∧ ∀ n ∈ leftD M changes, n.2 < M.files.length := by
  refine ⟨foldN_sort _ h.keep, fun n hn => ?_⟩
  rcases foldN_mem _ hn with hn | ⟨c, hc, hn⟩
  · exact h.kplace n hn
  · exact h.cplace c (List.mem_of_mem_take hc) n hn
end Go.Proofs.Ytlagmjdldplblaa
/- A disk by the document: what holds of it stays; what is safe is found. -/
namespace Go.Proofs.Ytlagmjdldplblaa
set_option linter.unusedVariables false
set_option maxRecDepth 4000

theorem okD_step {M : DK} (h : OkD M) : OkD (stepD M).1 := by
  unfold stepD
  split
  · exact ⟨h.quota, h.sort, h.keep, h.place, h.kplace, h.cplace, h.safe, h.now, h.one⟩
  · exact ⟨h.quota, h.sort, h.keep, h.place, h.kplace, h.cplace, h.safe, h.now, h.one⟩
theorem OneN.sub {l k : List Nm8} (h : OneN l) (hk : ∀ n ∈ k, n ∈ l) : OneN k := fun n hn m hm e => h n (hk n hn) m (hk m hm) e
theorem okD_change {M : DK} (h : OkD M) (c : Ch8) (hp : ∀ n, c.to = some n → n.2 < M.files.length) (ho : OneN (doneN M.names c)) : OkD (changeD M c) := by
  refine ⟨h.quota, doneN_sort h.sort c, h.keep, ?_, h.kplace, ?_, h.safe, ?_, ho⟩
  · intro n hn
    rcases doneN_mem hn with hn | hn
    · exact h.place n hn
    · exact hp n hn
  · intro d hd n hn
    rcases List.mem_append.1 hd with hd | hd
    · exact h.cplace d hd n hn
    · rw [List.mem_singleton.1 hd] at hn; exact hp n hn
  · show doneN M.names c = (M.chs ++ [c]).foldl doneN M.kept
    rw [List.foldl_append, ← h.now]; rfl
theorem okD_put {M : DK} (h : OkD M) (f : Nat) (x : Fl8) (hx : x.2 ≤ x.1.length) : OkD (putD M f x) := by
  refine ⟨h.quota, h.sort, h.keep, ?_, ?_, ?_, ?_, h.now, h.one⟩
  · intro n hn; show n.2 < (M.files.set f x).length; rw [List.length_set]; exact h.place n hn
  · intro n hn; show n.2 < (M.files.set f x).length; rw [List.length_set]; exact h.kplace n hn
  · intro c hc n hn; show n.2 < (M.files.set f x).length; rw [List.length_set]; exact h.cplace c hc n hn
  · intro y hy
    rcases List.mem_or_eq_of_mem_set hy with hy | rfl
    · exact h.safe y hy
    · exact hx
theorem OkD.fl {M : DK} (h : OkD M) (f : Nat) : (flN M f).2 ≤ (flN M f).1.length := by
  unfold flN
  rw [List.getD_eq_getElem?_getD]
  cases hg : M.files[f]? with
  | none => simp
  | some x => exact h.safe x (List.mem_of_getElem? hg)
theorem okD_created {M : DK} (h : OkD M) (s : ByteArray) : OkD (createdD M s).1 := by
  unfold createdD
  split
  · exact h
  · split
    · exact h
    · split
      · exact h
      · rename_i h1 h2 h3
        have hM : OkD { M with files := M.files ++ [([], 0)] } := by
          refine ⟨h.quota, h.sort, h.keep, ?_, ?_, ?_, ?_, h.now, h.one⟩
          · intro n hn; have := h.place n hn; simp; omega
          · intro n hn; have := h.kplace n hn; simp; omega
          · intro c hc n hn; have := h.cplace c hc n hn; simp; omega
          · intro x hx
            rcases List.mem_append.1 hx with hx | hx
            · exact h.safe x hx
            · rw [List.mem_singleton.1 hx]; simp
        refine okD_change hM _ (fun n hn => ?_) ?_
        · cases hn; simp
        · intro n hn m hm e
          have hn' := withN_mem.1 hn
          have hm' := withN_mem.1 hm
          rcases hn' with rfl | ⟨hn', -⟩ <;> rcases hm' with rfl | ⟨hm', -⟩
          · rfl
          · have := h.place m hm'; simp at e; omega
          · have := h.place n hn'; simp at e; omega
          · exact h.one n hn' m hm' e
theorem okD_renamed {M : DK} (h : OkD M) (s t : ByteArray) : OkD (renamedD M s t).1 := by
  unfold renamedD
  split
  · exact h
  · split
    · exact h
    · rename_i f hf
      have hm := findN_mem hf
      refine okD_change h _ (fun n hn => by cases hn; exact (show f < M.files.length from h.place (s, f) hm)) ?_
      intro n hn m hm2 e
      have hn' := withN_mem.1 hn
      have hm' := withN_mem.1 hm2
      have key : ∀ n ∈ withoutN M.names s, n.2 ≠ f := fun n hn e => by
        obtain ⟨h1, h2⟩ := withoutN_mem.1 hn
        exact h2 (h.one n h1 _ hm e)
      rcases hn' with rfl | ⟨hn', -⟩ <;> rcases hm' with rfl | ⟨hm', -⟩
      · rfl
      · exact absurd e.symm (key m hm')
      · exact absurd e (key n hn')
      · exact h.one n (withoutN_mem.1 hn').1 m (withoutN_mem.1 hm').1 e
theorem okD_removed {M : DK} (h : OkD M) (s : ByteArray) : OkD (removedD M s).1 := by
  unfold removedD
  split
  · exact h
  · exact okD_change h _ (fun n hn => by cases hn) (h.one.sub (fun n hn => (withoutN_mem.1 hn).1))
theorem okD_appended {M : DK} (h : OkD M) (e : Int) (s : ByteArray) (b : List Int) : OkD (appendedD M e s b).1 := by
  unfold appendedD
  split
  · exact h
  · split
    · exact okD_put h _ _ (by have := h.fl; rename_i f _ _; have := h.fl f; simp only [List.length_append]; omega)
    · exact h
theorem okD_synced {M : DK} (h : OkD M) (s : ByteArray) : OkD (syncedD M s).1 := by
  unfold syncedD
  split
  · exact h
  · exact okD_put h _ _ (Nat.le_refl _)
theorem okD_kept {M : DK} (h : OkD M) : OkD (keptD M) := ⟨h.quota, h.sort, h.sort, h.place, h.place, (fun c hc => by cases hc), h.safe, rfl, h.one⟩
theorem okD_then {M : DK} (h : OkD M) {g : DK → DK × Int} (hg : ∀ M, OkD M → OkD (g M).1) : OkD (thenD M g).1 := by
  unfold thenD
  split
  · exact hg _ (okD_step h)
  · exact okD_step h
theorem okD_create {M : DK} (h : OkD M) (s : ByteArray) : OkD (createD M s).1 := okD_then h (fun M h => okD_created h s)
theorem okD_append {M : DK} (h : OkD M) (s : ByteArray) (b : List Int) : OkD (appendD M s b).1 := by
  unfold appendD
  split
  · exact okD_step h
  · exact okD_appended (okD_step h) _ s b
theorem okD_sync {M : DK} (h : OkD M) (s : ByteArray) : OkD (syncD M s).1 := okD_then h (fun M h => okD_synced h s)
theorem okD_syncDir {M : DK} (h : OkD M) : OkD (syncDirD M).1 := okD_then h (fun M h => okD_kept h)
theorem okD_rename {M : DK} (h : OkD M) (s t : ByteArray) : OkD (renameD M s t).1 := okD_then h (fun M h => okD_renamed h s t)
theorem okD_remove {M : DK} (h : OkD M) (s : ByteArray) : OkD (removeD M s).1 := okD_then h (fun M h => okD_removed h s)
theorem okD_fail {M : DK} (h : OkD M) (l : List Int) : OkD (failD M l) := ⟨h.quota, h.sort, h.keep, h.place, h.kplace, h.cplace, h.safe, h.now, h.one⟩
theorem okD_limit {M : DK} (h : OkD M) (n : Int) : OkD (limitD M n) := ⟨h.quota, h.sort, h.keep, h.place, h.kplace, h.cplace, h.safe, h.now, h.one⟩
theorem numberN_len : ∀ (i : Nat) (l : List Nm8), (numberN i l).length = l.length
  | _, [] => rfl
  | i, n :: l => by rw [numberN, List.length_cons, List.length_cons, numberN_len]
theorem foundL_len (files : List Fl8) (tails : List Int) : ∀ (i : Nat) (l : List Nm8), (foundL files tails i l).length = l.length
  | _, [] => rfl
  | i, n :: l => by rw [foundL, List.length_cons, List.length_cons, foundL_len files tails (i + 1) l]
theorem numberN_mem : ∀ {i : Nat} {l : List Nm8} {x : Nm8}, x ∈ numberN i l → i ≤ x.2 ∧ x.2 < i + l.length ∧ ∃ n ∈ l, n.1 = x.1
  | _, [], _, h => by cases h
  | i, n :: l, x, h => by
    rw [numberN] at h
    rcases List.mem_cons.1 h with rfl | h
    · exact ⟨Nat.le_refl _, by simp, n, List.mem_cons_self .., rfl⟩
    · obtain ⟨h1, h2, m, h3, h4⟩ := numberN_mem h
      exact ⟨by omega, by simp only [List.length_cons]; omega, m, List.mem_cons_of_mem _ h3, h4⟩
theorem numberN_sort : ∀ (i : Nat) {l : List Nm8}, SortN l → SortN (numberN i l)
  | _, [], _ => trivial
  | i, n :: l, h => by
    refine ⟨fun x hx => ?_, numberN_sort (i + 1) h.2⟩
    obtain ⟨-, -, m, hm, e⟩ := numberN_mem hx
    rw [← e]; exact h.1 m hm
theorem numberN_one : ∀ (i : Nat) (l : List Nm8), OneN (numberN i l)
  | _, [] => fun n hn => by cases hn
  | i, n :: l => by
    intro x hx y hy e
    rw [numberN] at hx hy
    rcases List.mem_cons.1 hx with rfl | hx
    · rcases List.mem_cons.1 hy with rfl | hy
      · rfl
      · have := (numberN_mem hy).1
        have e' : i = y.2 := e
        omega
    · rcases List.mem_cons.1 hy with rfl | hy
      · have := (numberN_mem hx).1
        have e' : x.2 = i := e
        omega
      · exact numberN_one (i + 1) l x hx y hy e
theorem numberN_texts : ∀ (i : Nat) (l : List Nm8), (numberN i l).map (fun n => n.1) = l.map (fun n => n.1)
  | _, [] => rfl
  | i, n :: l => by rw [numberN, List.map_cons, List.map_cons, numberN_texts]
theorem tailD_le (tails : List Int) (i n : Nat) : tailD tails i n ≤ n := by
  unfold tailD
  split
  · omega
  · have h1 := Int.emod_nonneg (tails.getD (i % tails.length) 0) (show (n : Int) + 1 ≠ 0 by omega)
    have h2 := Int.emod_lt_of_pos (tails.getD (i % tails.length) 0) (show (0 : Int) < (n : Int) + 1 by omega)
    omega
theorem foundL_safe (files : List Fl8) (tails : List Int) (hs : ∀ x ∈ files, x.2 ≤ x.1.length) : ∀ (i : Nat) (l : List Nm8), ∀ x ∈ foundL files tails i l, x.2 = x.1.length
  | _, [], x, h => by cases h
  | i, n :: l, x, h => by
    rw [foundL] at h
    rcases List.mem_cons.1 h with rfl | h
    · have hf : (files.getD n.2 ([], 0)).2 ≤ (files.getD n.2 ([], 0)).1.length := by
        rw [List.getD_eq_getElem?_getD]
        cases hg : files[n.2]? with
        | none => simp
        | some y => exact hs y (List.mem_of_getElem? hg)
      have := tailD_le tails i ((files.getD n.2 ([], 0)).1.length - (files.getD n.2 ([], 0)).2)
      simp only [List.length_take]; omega
    · exact foundL_safe files tails hs (i + 1) l x h
theorem okD_crash {M : DK} (h : OkD M) (changes : Int) (tails : List Int) : OkD (crashD M changes tails) := by
  obtain ⟨h1, h2⟩ := okD_left h changes
  refine ⟨h.quota, numberN_sort 0 h1, numberN_sort 0 h1, ?_, ?_, (fun c hc => by cases hc), (fun x hx => Nat.le_of_eq (foundL_safe M.files tails h.safe 0 _ x hx)), rfl, numberN_one 0 _⟩
  · intro n hn; show n.2 < (foundL _ _ _ _).length; rw [foundL_len]; have := (numberN_mem hn).2.1; omega
  · intro n hn; show n.2 < (foundL _ _ _ _).length; rw [foundL_len]; have := (numberN_mem hn).2.1; omega
/-- what is found of a file -/
theorem found_at (files : List Fl8) (tails : List Int) : ∀ (i : Nat) {l : List Nm8} {s : ByteArray} {f : Nat}, findN l s = some f → ∃ j, j < l.length ∧ findN (numberN i l) s = some (i + j) ∧ ∃ x, x ≤ (files.getD f ([], 0)).1.length - (files.getD f ([], 0)).2 ∧
    (foundL files tails i l).getD j ([], 0) = ((files.getD f ([], 0)).1.take ((files.getD f ([], 0)).2 + x), (files.getD f ([], 0)).2 + x)
  | _, [], s, f, h => by cases h
  | i, n :: l, s, f, h => by
    rw [findN] at h
    by_cases hs : n.1 = s
    · rw [if_pos hs] at h
      cases h
      refine ⟨0, by simp, by rw [numberN, findN, if_pos hs, Nat.add_zero], _, tailD_le tails i _, ?_⟩
      rw [foundL]; rfl
    · rw [if_neg hs] at h
      obtain ⟨j, hj, h1, x, hx, h2⟩ := found_at files tails (i + 1) h
      refine ⟨j + 1, by simp only [List.length_cons]; omega, by rw [numberN, findN, if_neg hs, h1]; congr 1; omega, x, hx, ?_⟩
      rw [foundL]
      simpa using h2
end Go.Proofs.Ytlagmjdldplblaa
/- A disk by the document: a file that was safe, under a name that was kept (DiskSafe's plain part). -/
namespace Go.Proofs.Ytlagmjdldplblaa
set_option linter.unusedVariables false
set_option maxRecDepth 4000

/-- a step by its number -/
def doesD (M : DK) (k : Nat) (s t : ByteArray) (b : List Int) : DK × Int :=
  if k = 0 then createD M s else if k = 1 then appendD M s b else if k = 2 then syncD M s else if k = 3 then syncDirD M else if k = 4 then renameD M s t else removeD M s
theorem okD_does {M : DK} (h : OkD M) (k : Nat) (s t : ByteArray) (b : List Int) : OkD (doesD M k s t b).1 := by
  unfold doesD
  repeat' split
  · exact okD_create h s
  · exact okD_append h s b
  · exact okD_sync h s
  · exact okD_syncDir h
  · exact okD_rename h s t
  · exact okD_remove h s
/-- nothing fails, and there is no limit -/
structure Free8 (M : DK) : Prop where
  live : M.dead = false
  limit : M.limit = none
  fails : M.fails = []
theorem Free8.step {M : DK} (h : Free8 M) : stepD M = ({ M with taken := M.taken + 1 }, 0) := by
  unfold stepD
  rw [if_neg (by rw [h.live, h.limit]; simp), h.fails]
  simp
theorem Free8.next {M : DK} (h : Free8 M) : Free8 { M with taken := M.taken + 1 } := ⟨h.live, h.limit, h.fails⟩
theorem Free8.then {M : DK} (h : Free8 M) (g : DK → DK × Int) : thenD M g = g { M with taken := M.taken + 1 } := by
  unfold thenD; rw [h.step, if_pos rfl]
theorem Free8.append {M : DK} (h : Free8 M) (s : ByteArray) (b : List Int) : appendD M s b = appendedD { M with taken := M.taken + 1 } 0 s b := by
  unfold appendD; rw [h.step, if_neg (show ¬ (0 : Int) = 34 by decide)]
theorem free_new (q : Int) : Free8 (newD q) := ⟨rfl, rfl, rfl⟩
theorem free_created {M : DK} (h : Free8 M) (s : ByteArray) : Free8 (createdD M s).1 := by
  unfold createdD
  repeat' split
  · exact h
  · exact h
  · exact h
  · exact ⟨h.live, h.limit, h.fails⟩
theorem free_appended {M : DK} (h : Free8 M) (e : Int) (s : ByteArray) (b : List Int) : Free8 (appendedD M e s b).1 := by
  unfold appendedD
  split
  · exact h
  · split
    · exact ⟨h.live, h.limit, h.fails⟩
    · exact h
theorem free_does {M : DK} (h : Free8 M) (k : Nat) (s t : ByteArray) (b : List Int) : Free8 (doesD M k s t b).1 := by
  have hn := h.next
  unfold doesD createD syncD syncDirD renameD removeD
  rw [h.append, h.then, h.then, h.then, h.then, h.then]
  repeat' split
  · exact free_created hn s
  · exact free_appended hn _ s b
  · unfold syncedD
    split
    · exact hn
    · exact ⟨hn.live, hn.limit, hn.fails⟩
  · exact ⟨hn.live, hn.limit, hn.fails⟩
  · unfold renamedD
    repeat' split
    · exact hn
    · exact hn
    · exact ⟨hn.live, hn.limit, hn.fails⟩
  · unfold removedD
    split
    · exact hn
    · exact ⟨hn.live, hn.limit, hn.fails⟩
/-- the file f has the name, also as it is kept, and these bytes at its head are safe -/
structure Safe8 (mine : ByteArray) (own : List Int) (f : Nat) (M : DK) : Prop where
  ok : OkD M
  free : Free8 M
  here : findN M.names mine = some f
  kept : findN M.kept mine = some f
  chs : ∀ c ∈ M.chs, Else8 mine c
  head : ∃ r, (flN M f).1 = own ++ r
  safe : own.length ≤ (flN M f).2
theorem Safe8.same {mine : ByteArray} {own : List Int} {f : Nat} {M : DK} (h : Safe8 mine own f M) (n : Nat) : Safe8 mine own f { M with taken := n } :=
  ⟨⟨h.ok.quota, h.ok.sort, h.ok.keep, h.ok.place, h.ok.kplace, h.ok.cplace, h.ok.safe, h.ok.now, h.ok.one⟩, ⟨h.free.live, h.free.limit, h.free.fails⟩, h.here, h.kept, h.chs, h.head, h.safe⟩
theorem safe_change {mine : ByteArray} {own : List Int} {f : Nat} {M : DK} (h : Safe8 mine own f M) (c : Ch8) (hc : Else8 mine c) (hok : OkD (changeD M c)) : Safe8 mine own f (changeD M c) := by
  refine ⟨hok, ⟨h.free.live, h.free.limit, h.free.fails⟩, (findN_done hc).trans h.here, h.kept, ?_, h.head, h.safe⟩
  intro d hd
  rcases List.mem_append.1 hd with hd | hd
  · exact h.chs d hd
  · rw [List.mem_singleton.1 hd]; exact hc
theorem flN_put_same {M : DK} {f : Nat} {x : Fl8} (h : f < M.files.length) : flN (putD M f x) f = x := by simp [flN, putD, h]
theorem flN_put_other {M : DK} {f g : Nat} {x : Fl8} (h : g ≠ f) : flN (putD M g x) f = flN M f := by simp [flN, putD, List.getD, List.getElem?_set_ne h]
theorem Safe8.place {mine : ByteArray} {own : List Int} {f : Nat} {M : DK} (h : Safe8 mine own f M) : f < M.files.length := h.ok.place _ (findN_mem h.here)
theorem safe_put {mine : ByteArray} {own : List Int} {f g : Nat} {M : DK} {s : ByteArray} {x : Fl8} (h : Safe8 mine own f M) (hg : findN M.names s = some g) (hx : x.2 ≤ x.1.length) (hs : s = mine → (∃ r, x.1 = (flN M g).1 ++ r) ∧ (flN M g).2 ≤ x.2) : Safe8 mine own f (putD M g x) := by
  refine ⟨okD_put h.ok g x hx, ⟨h.free.live, h.free.limit, h.free.fails⟩, h.here, h.kept, h.chs, ?_, ?_⟩
  · by_cases e : s = mine
    · subst e
      rw [h.here] at hg; cases hg
      obtain ⟨⟨r, hr⟩, -⟩ := hs rfl
      obtain ⟨r0, hr0⟩ := h.head
      rw [flN_put_same h.place, hr, hr0]
      exact ⟨r0 ++ r, by rw [List.append_assoc]⟩
    · have hgf : g ≠ f := fun e2 => e (h.ok.one _ (findN_mem hg) _ (findN_mem h.here) e2)
      rw [flN_put_other hgf]; exact h.head
  · by_cases e : s = mine
    · subst e
      rw [h.here] at hg; cases hg
      rw [flN_put_same h.place]; exact Nat.le_trans h.safe (hs rfl).2
    · have hgf : g ≠ f := fun e2 => e (h.ok.one _ (findN_mem hg) _ (findN_mem h.here) e2)
      rw [flN_put_other hgf]; exact h.safe
theorem safe_does {mine : ByteArray} {own : List Int} {f : Nat} {M : DK} (h : Safe8 mine own f M) (k : Nat) (s t : ByteArray) (b : List Int) (hk : k < 4 ∨ (s ≠ mine ∧ t ≠ mine)) : Safe8 mine own f (doesD M k s t b).1 := by
  have hall := okD_does h.ok k s t b
  have hn := h.same (M.taken + 1)
  have hw := h.free.then
  unfold doesD at hall ⊢
  by_cases k0 : k = 0
  · rw [if_pos k0] at hall ⊢
    rw [createD, hw] at hall ⊢
    unfold createdD at hall ⊢
    split
    · exact hn
    · split
      · exact hn
      · split
        · exact hn
        · rename_i h1 h2 h3
          rw [if_neg h1, if_neg h2, if_neg h3] at hall
          have hne : s ≠ mine := fun e => h2 (by show findN M.names s ≠ none; rw [e, h.here]; simp)
          refine ⟨hall, ⟨hn.free.live, hn.free.limit, hn.free.fails⟩, ?_, h.kept, ?_, ?_, ?_⟩
          · exact (findN_done (c := ⟨none, some (s, M.files.length)⟩) ⟨by simp, fun n e => by cases e; exact hne⟩).trans h.here
          · intro d hd
            rcases List.mem_append.1 hd with hd | hd
            · exact h.chs d hd
            · rw [List.mem_singleton.1 hd]; exact ⟨by simp, fun n e => by cases e; exact hne⟩
          · have e : flN (changeD { M with taken := M.taken + 1, files := M.files ++ [([], 0)] } ⟨none, some (s, M.files.length)⟩) f = flN M f := by
              simp [flN, changeD, List.getD, List.getElem?_append_left h.place]
            show ∃ r, (flN (changeD { M with taken := M.taken + 1, files := M.files ++ [([], 0)] } ⟨none, some (s, M.files.length)⟩) f).1 = own ++ r
            rw [e]; exact h.head
          · have e : flN (changeD { M with taken := M.taken + 1, files := M.files ++ [([], 0)] } ⟨none, some (s, M.files.length)⟩) f = flN M f := by
              simp [flN, changeD, List.getD, List.getElem?_append_left h.place]
            show own.length ≤ (flN (changeD { M with taken := M.taken + 1, files := M.files ++ [([], 0)] } ⟨none, some (s, M.files.length)⟩) f).2
            rw [e]; exact h.safe
  rw [if_neg k0] at hall ⊢
  by_cases k1 : k = 1
  · rw [if_pos k1] at hall ⊢
    rw [h.free.append] at hall ⊢
    unfold appendedD
    split
    · exact hn
    · rename_i g hg
      split
      · rw [if_neg (by decide)]
        refine safe_put hn hg (by have := hn.ok.fl g; simp only [List.length_append]; omega) (fun _ => ⟨⟨b, rfl⟩, Nat.le_refl _⟩)
      · exact hn
  rw [if_neg k1] at hall ⊢
  by_cases k2 : k = 2
  · rw [if_pos k2] at hall ⊢
    rw [syncD, hw]
    unfold syncedD
    split
    · exact hn
    · rename_i g hg
      exact safe_put hn hg (Nat.le_refl _) (fun _ => ⟨⟨[], (List.append_nil _).symm⟩, hn.ok.fl g⟩)
  rw [if_neg k2] at hall ⊢
  by_cases k3 : k = 3
  · rw [if_pos k3] at hall ⊢
    rw [syncDirD, hw]
    exact ⟨okD_kept hn.ok, ⟨hn.free.live, hn.free.limit, hn.free.fails⟩, h.here, h.here, (fun c hc => by cases hc), h.head, h.safe⟩
  rw [if_neg k3] at hall ⊢
  obtain ⟨hs, ht⟩ := hk.resolve_left (by omega)
  by_cases k4 : k = 4
  · rw [if_pos k4] at hall ⊢
    rw [renameD, hw] at hall ⊢
    unfold renamedD at hall ⊢
    split
    · exact hn
    · rename_i h1
      rw [if_neg h1] at hall
      split
      · exact hn
      · rename_i g hg
        simp only [hg] at hall
        exact safe_change hn _ ⟨fun e => hs (Option.some.inj e), fun n e => by cases e; exact ht⟩ hall
  · rw [if_neg k4] at hall ⊢
    rw [removeD, hw] at hall ⊢
    unfold removedD at hall ⊢
    split
    · exact hn
    · rename_i g hg
      simp only [hg] at hall
      exact safe_change hn _ ⟨fun e => hs (Option.some.inj e), fun n e => by cases e⟩ hall
/-- what is found of it behind a crash -/
theorem safe_found {mine : ByteArray} {own : List Int} {f : Nat} {M : DK} (h : Safe8 mine own f M) (changes : Int) (tails : List Int) :
    ∃ k, own.length ≤ k ∧ k ≤ (flN M f).1.length ∧ readD (crashD M changes tails) mine = ((flN M f).1.take k, 0) ∧ ∀ ts, readD (crashD (crashD M changes tails) 0 ts) mine = ((flN M f).1.take k, 0) := by
  have hf : findN (leftD M changes) mine = some f := (findN_fold _ (fun c hc => h.chs c (List.mem_of_mem_take hc))).trans h.kept
  obtain ⟨j, hj, h1, x, hx, h2⟩ := found_at M.files tails 0 hf
  have hfl := h.ok.fl f
  have hs := h.safe
  unfold flN at hfl hs
  rw [Nat.zero_add] at h1
  have hr : ∀ (N : DK), N.dead = false → findN N.names mine = some j → N.files.getD j ([], 0) = ((M.files.getD f ([], 0)).1.take ((M.files.getD f ([], 0)).2 + x), (M.files.getD f ([], 0)).2 + x) → readD N mine = ((flN M f).1.take ((flN M f).2 + x), 0) := by
    intro N q1 q2 q3
    unfold readD
    rw [q1, if_neg (by decide), q2]
    show ((N.files.getD j ([], 0)).1, (0 : Int)) = _
    rw [q3]; rfl
  refine ⟨(flN M f).2 + x, by unfold flN; omega, by unfold flN; omega, hr _ rfl h1 h2, fun ts => ?_⟩
  have hk2 : leftD (crashD M changes tails) 0 = numberN 0 (leftD M changes) := rfl
  obtain ⟨j2, hj2, h3, x2, hx2, h4⟩ := found_at (crashD M changes tails).files ts 0 (l := numberN 0 (leftD M changes)) h1
  rw [Nat.zero_add] at h3
  have e2 : (crashD M changes tails).files.getD j ([], 0) = _ := h2
  rw [e2] at hx2 h4
  have hx0 : x2 = 0 := by simp only [List.length_take] at hx2; omega
  subst hx0
  have h5 : readD (crashD (crashD M changes tails) 0 ts) mine = ((((crashD (crashD M changes tails) 0 ts).files).getD j2 ([], 0)).1, 0) := by
    unfold readD
    rw [if_neg (by simp [crashD])]
    have : findN (crashD (crashD M changes tails) 0 ts).names mine = some j2 := h3
    rw [this]; rfl
  rw [h5]
  have h6 : ((crashD (crashD M changes tails) 0 ts).files).getD j2 ([], 0) = _ := h4
  rw [h6]
  simp only [Nat.add_zero, List.take_take, Nat.min_self]
  rfl
end Go.Proofs.Ytlagmjdldplblaa
/- A disk by the document: how many bytes and names there can be; a file that is made, and made safe. -/
namespace Go.Proofs.Ytlagmjdldplblaa
set_option linter.unusedVariables false
set_option maxRecDepth 4000

def sizeL (files : List Fl8) : Nat := (files.map (fun x => x.1.length)).sum
def totD (M : DK) : Nat := sizeL M.files
theorem sizeL_set : ∀ (files : List Fl8) (j : Nat) (x : Fl8), j < files.length → sizeL (files.set j x) + (files.getD j ([], 0)).1.length = sizeL files + x.1.length
  | [], j, x, h => by simp at h
  | y :: l, 0, x, _ => by simp [sizeL]; omega
  | y :: l, j + 1, x, h => by
    have := sizeL_set l j x (by simpa using h)
    simp only [sizeL, List.set_cons_succ, List.map_cons, List.sum_cons, List.getD_cons_succ] at this ⊢
    omega
theorem usedL_le : ∀ (names : List Nm8) (files : List Fl8), SortN names → OneN names → (∀ n ∈ names, n.2 < files.length) → usedL files names ≤ sizeL files
  | [], files, _, _, _ => Nat.zero_le _
  | n :: l, files, hs, ho, hp => by
    have h1 := sizeL_set files n.2 ([], 0) (hp n (List.mem_cons_self ..))
    have h2 := usedL_le l (files.set n.2 ([], 0)) hs.2 (ho.sub (fun m hm => List.mem_cons_of_mem _ hm)) (fun m hm => by rw [List.length_set]; exact hp m (List.mem_cons_of_mem _ hm))
    have h3 : usedL (files.set n.2 ([], 0)) l = usedL files l := by
      unfold usedL
      congr 1
      refine List.map_congr_left (fun m hm => ?_)
      have hne : n.2 ≠ m.2 := fun e => ltN_ne (hs.1 m hm) (ho n (List.mem_cons_self ..) m (List.mem_cons_of_mem _ hm) e)
      simp [List.getD, List.getElem?_set_ne hne]
    have h4 : usedL files (n :: l) = (files.getD n.2 ([], 0)).1.length + usedL files l := by simp [usedL]
    rw [h4, ← h3]
    simp only [List.length_nil] at h1
    omega
theorem used_tot {M : DK} (h : OkD M) : usedD M ≤ totD M := usedL_le _ _ h.sort h.one h.place
/-- what a step may add -/
def Adds (M N : DK) (b : Nat) : Prop := totD N ≤ totD M + b ∧ N.names.length ≤ M.names.length + 1 ∧ N.quota = M.quota
theorem Adds.none (M : DK) (n b : Nat) : Adds M { M with taken := n } b := ⟨Nat.le_add_right _ _, Nat.le_succ _, rfl⟩
theorem doneN_len (l : List Nm8) (c : Ch8) : (doneN l c).length ≤ l.length + 1 := by
  have h1 : (goneN l c.frm).length ≤ l.length := by
    cases c.frm with
    | none => exact Nat.le_refl _
    | some s => exact withoutN_len l s
  unfold doneN
  cases c.to with
  | none => show (goneN l c.frm).length ≤ _; omega
  | some n => have := withN_len (goneN l c.frm) n; show (withN _ _).length ≤ _; omega
theorem adds_put {M : DK} {f : Nat} {x : Fl8} {b n : Nat} (hf : f < M.files.length) (hx : x.1.length ≤ (flN M f).1.length + b) : Adds M (putD { M with taken := n } f x) b := by
  refine ⟨?_, Nat.le_succ _, rfl⟩
  have := sizeL_set M.files f x hf
  unfold flN at hx
  show sizeL (M.files.set f x) ≤ sizeL M.files + b
  omega
theorem adds_does {M : DK} (hok : OkD M) (hf : Free8 M) (k : Nat) (s t : ByteArray) (b : List Int) : Adds M (doesD M k s t b).1 b.length := by
  unfold doesD createD syncD syncDirD renameD removeD
  rw [hf.append, hf.then, hf.then, hf.then, hf.then, hf.then]
  by_cases k0 : k = 0
  · rw [if_pos k0]
    unfold createdD
    split
    · exact Adds.none ..
    · split
      · exact Adds.none ..
      · split
        · exact Adds.none ..
        · refine ⟨?_, doneN_len M.names ⟨none, some (s, M.files.length)⟩, rfl⟩
          show sizeL (M.files ++ [([], 0)]) ≤ sizeL M.files + _
          simp [sizeL]
  rw [if_neg k0]
  by_cases k1 : k = 1
  · rw [if_pos k1]
    unfold appendedD
    split
    · exact Adds.none ..
    · rename_i g hg
      split
      · rw [if_neg (by decide)]
        exact adds_put (hok.place _ (findN_mem hg)) (by simp only [List.length_append]; exact Nat.le_refl _)
      · exact Adds.none ..
  rw [if_neg k1]
  by_cases k2 : k = 2
  · rw [if_pos k2]
    unfold syncedD
    split
    · exact Adds.none ..
    · rename_i g hg
      exact adds_put (hok.place _ (findN_mem hg)) (Nat.le_add_right _ _)
  rw [if_neg k2]
  by_cases k3 : k = 3
  · rw [if_pos k3]; exact ⟨Nat.le_add_right _ _, Nat.le_succ _, rfl⟩
  rw [if_neg k3]
  by_cases k4 : k = 4
  · rw [if_pos k4]
    unfold renamedD
    split
    · exact Adds.none ..
    · split
      · exact Adds.none ..
      · rename_i g hg
        exact ⟨Nat.le_add_right _ _, doneN_len M.names ⟨some s, some (t, g)⟩, rfl⟩
  · rw [if_neg k4]
    unfold removedD
    split
    · exact Adds.none ..
    · exact ⟨Nat.le_add_right _ _, doneN_len M.names ⟨some s, none⟩, rfl⟩
/-- a file is made, written and made safe, and its name kept -/
theorem made_safe {M : DK} (hok : OkD M) (hf : Free8 M) {mine : ByteArray} (hm : okName mine = true) (hn : M.names.length ≤ 150) {own : List Int} (hq : ((totD M + own.length : Nat) : Int) ≤ M.quota) :
    (createD (removeD M mine).1 mine).2 = 0 ∧ ∃ f, Safe8 mine own f (syncDirD (syncD (appendD (createD (removeD M mine).1 mine).1 mine own).1 mine).1).1 ∧
      (syncDirD (syncD (appendD (createD (removeD M mine).1 mine).1 mine own).1 mine).1).1.kept = (syncDirD (syncD (appendD (createD (removeD M mine).1 mine).1 mine own).1 mine).1).1.names ∧
      (flN (syncDirD (syncD (appendD (createD (removeD M mine).1 mine).1 mine own).1 mine).1).1 f).1 = own := by
  -- without it
  have h1 := okD_does hok 5 mine mine []
  have f1 := free_does hf 5 mine mine []
  have a1 := adds_does hok hf 5 mine mine []
  have e1 : (doesD M 5 mine mine []).1 = (removeD M mine).1 := rfl
  have n1 : findN (removeD M mine).1.names mine = none := by
    rw [removeD, hf.then]
    unfold removedD
    split
    · assumption
    · show findN (withoutN M.names mine) mine = none
      rw [findN_without, if_pos rfl]
  rw [e1] at h1 f1 a1
  generalize (removeD M mine).1 = M1 at *
  obtain ⟨t1, l1, q1⟩ := a1
  -- made
  have h2 := okD_create h1 mine
  have f2 : Free8 (createD M1 mine).1 := free_does f1 0 mine mine []
  have a2 := adds_does h1 f1 0 mine mine []
  have e2 : (doesD M1 0 mine mine []).1 = (createD M1 mine).1 := rfl
  rw [e2] at a2
  obtain ⟨t2, l2, q2⟩ := a2
  have hc : createD M1 mine = (changeD { M1 with taken := M1.taken + 1, files := M1.files ++ [([], 0)] } ⟨none, some (mine, M1.files.length)⟩, 0) := by
    rw [createD, f1.then]
    unfold createdD
    rw [if_neg (by rw [hm]; decide), if_neg (by show ¬ findN M1.names mine ≠ none; rw [n1]; simp), if_neg (by show ¬ 200 ≤ M1.names.length; omega)]
  have n2 : findN (createD M1 mine).1.names mine = some M1.files.length := by
    rw [hc]
    show findN (withN M1.names (mine, M1.files.length)) mine = _
    rw [findN_with, if_pos rfl]
  have fl2 : flN (createD M1 mine).1 M1.files.length = ([], 0) := by rw [hc]; simp [flN, changeD]
  have p2 : M1.files.length < (createD M1 mine).1.files.length := h2.place _ (findN_mem n2)
  refine ⟨by rw [hc], ?_⟩
  generalize (createD M1 mine).1 = M2 at *
  generalize M1.files.length = f at *
  -- written
  have h3 := okD_append h2 mine own
  have f3 : Free8 (appendD M2 mine own).1 := free_does f2 1 mine mine own
  have hc3 : (appendD M2 mine own).1 = putD { M2 with taken := M2.taken + 1 } f (own, 0) := by
    rw [f2.append]
    unfold appendedD
    have n2' : findN ({ M2 with taken := M2.taken + 1 } : DK).names mine = some f := n2
    rw [n2']
    have hu := used_tot h2
    have hu2 : (((usedD { M2 with taken := M2.taken + 1 } + own.length : Nat)) : Int) ≤ ({ M2 with taken := M2.taken + 1 } : DK).quota := by
      show ((usedD M2 + own.length : Nat) : Int) ≤ M2.quota
      simp only [List.length_nil] at t1 t2
      rw [q2, q1]; omega
    show (if _ then _ else _ : DK × Int).1 = _
    rw [if_pos hu2, if_neg (by decide)]
    have : flN { M2 with taken := M2.taken + 1 } f = flN M2 f := rfl
    rw [this, fl2]; rfl
  have n3 : findN (appendD M2 mine own).1.names mine = some f := by rw [hc3]; exact n2
  have fl3 : flN (appendD M2 mine own).1 f = (own, 0) := by rw [hc3]; exact flN_put_same p2
  have p3 : f < (appendD M2 mine own).1.files.length := h3.place _ (findN_mem n3)
  generalize (appendD M2 mine own).1 = M3 at *
  have h4 := okD_sync h3 mine
  have f4 : Free8 (syncD M3 mine).1 := free_does f3 2 mine mine own
  have hc4 : (syncD M3 mine).1 = putD { M3 with taken := M3.taken + 1 } f (own, own.length) := by
    rw [syncD, f3.then]
    unfold syncedD
    have n3' : findN ({ M3 with taken := M3.taken + 1 } : DK).names mine = some f := n3
    rw [n3']
    have : flN { M3 with taken := M3.taken + 1 } f = flN M3 f := rfl
    show putD _ f ((flN { M3 with taken := M3.taken + 1 } f).1, _) = _
    rw [this, fl3]
  have n4 : findN (syncD M3 mine).1.names mine = some f := by rw [hc4]; exact n3
  have fl4 : flN (syncD M3 mine).1 f = (own, own.length) := by rw [hc4]; exact flN_put_same p3
  generalize (syncD M3 mine).1 = M4 at *
  have hc5 : syncDirD M4 = (keptD { M4 with taken := M4.taken + 1 }, 0) := by rw [syncDirD, f4.then]
  have h5 := okD_syncDir h4
  rw [hc5] at h5 ⊢
  have fl5 : flN (keptD { M4 with taken := M4.taken + 1 }) f = (own, own.length) := fl4
  refine ⟨f, ⟨h5, ⟨f4.live, f4.limit, f4.fails⟩, n4, n4, (fun c hc => by cases hc), ⟨[], by rw [fl5, List.append_nil]⟩, by rw [fl5]; exact Nat.le_refl _⟩, rfl, by rw [fl5]⟩
/-- the names that are found if no change is -/
theorem found_none {M : DK} (changes : Int) (h : changes ≤ 0) (tails : List Int) : textsD (crashD M changes tails) = M.kept.map (fun n => n.1) := by
  show (numberN 0 (leftD M changes)).map (fun n => n.1) = _
  rw [numberN_texts, leftD, show changes.toNat = 0 by omega]; rfl
/-- the names that are kept turn only where they are kept anew -/
theorem kept_does {M : DK} (hf : Free8 M) (k : Nat) (s t : ByteArray) (b : List Int) : (doesD M k s t b).1.kept = if k = 3 then M.names else M.kept := by
  unfold doesD createD syncD syncDirD renameD removeD
  rw [hf.append, hf.then, hf.then, hf.then, hf.then, hf.then]
  by_cases k0 : k = 0
  · rw [if_pos k0, if_neg (by omega)]
    unfold createdD
    repeat' split
    all_goals rfl
  rw [if_neg k0]
  by_cases k1 : k = 1
  · rw [if_pos k1, if_neg (by omega)]
    unfold appendedD
    split
    · rfl
    · split
      · rfl
      · rfl
  rw [if_neg k1]
  by_cases k2 : k = 2
  · rw [if_pos k2, if_neg (by omega)]
    unfold syncedD
    split <;> rfl
  rw [if_neg k2]
  by_cases k3 : k = 3
  · rw [if_pos k3, if_pos k3]; rfl
  rw [if_neg k3, if_neg k3]
  by_cases k4 : k = 4
  · rw [if_pos k4]
    unfold renamedD
    split
    · rfl
    · split <;> rfl
  · rw [if_neg k4]
    unfold removedD
    split <;> rfl
end Go.Proofs.Ytlagmjdldplblaa
/- A disk by the document: what each step makes of a disk where nothing fails; a file that takes another one's name; a disk that is full. -/
namespace Go.Proofs.Ytlagmjdldplblaa
set_option linter.unusedVariables false
set_option maxRecDepth 4000

theorem create_eq {M : DK} (hf : Free8 M) {s : ByteArray} (hm : okName s = true) (hn : findN M.names s = none) (hl : M.names.length < 200) :
    createD M s = (changeD { M with taken := M.taken + 1, files := M.files ++ [([], 0)] } ⟨none, some (s, M.files.length)⟩, 0) := by
  rw [createD, hf.then]
  unfold createdD
  rw [if_neg (by rw [hm]; decide), if_neg (by show ¬ findN M.names s ≠ none; rw [hn]; simp), if_neg (by show ¬ 200 ≤ M.names.length; omega)]
theorem append_eq {M : DK} (hf : Free8 M) {s : ByteArray} {f : Nat} (hn : findN M.names s = some f) {b : List Int} (hq : ((usedD M + b.length : Nat) : Int) ≤ M.quota) :
    appendD M s b = (putD { M with taken := M.taken + 1 } f ((flN M f).1 ++ b, (flN M f).2), 0) := by
  rw [hf.append]
  unfold appendedD
  have hn' : findN ({ M with taken := M.taken + 1 } : DK).names s = some f := hn
  rw [hn']
  show (if _ then _ else _ : DK × Int) = _
  rw [if_pos (show ((usedD { M with taken := M.taken + 1 } + b.length : Nat) : Int) ≤ ({ M with taken := M.taken + 1 } : DK).quota from hq), if_neg (by decide)]
  rfl
theorem append_full {M : DK} (hf : Free8 M) {s : ByteArray} {f : Nat} (hn : findN M.names s = some f) {b : List Int} (hq : ¬ ((usedD M + b.length : Nat) : Int) ≤ M.quota) :
    appendD M s b = ({ M with taken := M.taken + 1 }, 32) := by
  rw [hf.append]
  unfold appendedD
  have hn' : findN ({ M with taken := M.taken + 1 } : DK).names s = some f := hn
  rw [hn']
  show (if _ then _ else _ : DK × Int) = _
  rw [if_neg (show ¬ ((usedD { M with taken := M.taken + 1 } + b.length : Nat) : Int) ≤ ({ M with taken := M.taken + 1 } : DK).quota from hq), if_neg (by decide)]
theorem sync_eq {M : DK} (hf : Free8 M) {s : ByteArray} {f : Nat} (hn : findN M.names s = some f) :
    syncD M s = (putD { M with taken := M.taken + 1 } f ((flN M f).1, (flN M f).1.length), 0) := by
  rw [syncD, hf.then]
  unfold syncedD
  have hn' : findN ({ M with taken := M.taken + 1 } : DK).names s = some f := hn
  rw [hn']; rfl
theorem syncDir_eq {M : DK} (hf : Free8 M) : syncDirD M = (keptD { M with taken := M.taken + 1 }, 0) := by rw [syncDirD, hf.then]
theorem rename_eq {M : DK} (hf : Free8 M) {s t : ByteArray} {f : Nat} (ht : okName t = true) (hn : findN M.names s = some f) :
    renameD M s t = (changeD { M with taken := M.taken + 1 } ⟨some s, some (t, f)⟩, 0) := by
  rw [renameD, hf.then]
  unfold renamedD
  have hn' : findN ({ M with taken := M.taken + 1 } : DK).names s = some f := hn
  rw [if_neg (by rw [ht]; decide), hn']
theorem remove_eq {M : DK} (hf : Free8 M) {s : ByteArray} {f : Nat} (hn : findN M.names s = some f) : removeD M s = (changeD { M with taken := M.taken + 1 } ⟨some s, none⟩, 0) := by
  rw [removeD, hf.then]
  unfold removedD
  have hn' : findN ({ M with taken := M.taken + 1 } : DK).names s = some f := hn
  rw [hn']
theorem number_none {s : ByteArray} : ∀ {i : Nat} {l : List Nm8}, findN l s = none → findN (numberN i l) s = none
  | _, [], _ => rfl
  | i, n :: l, h => by
    rw [findN] at h
    by_cases hs : n.1 = s
    · rw [if_pos hs] at h; cases h
    · rw [if_neg hs] at h; rw [numberN, findN, if_neg hs]; exact number_none h
theorem read_none {M : DK} {changes : Int} {tails : List Int} {s : ByteArray} (h : findN (leftD M changes) s = none) : readD (crashD M changes tails) s = ([], 30) := by
  unfold readD
  rw [if_neg (by simp [crashD]), show findN (crashD M changes tails).names s = none from number_none h]
theorem read_whole {M : DK} {changes : Int} {tails : List Int} {s : ByteArray} {f : Nat} (h : findN (leftD M changes) s = some f) (hs : (flN M f).2 = (flN M f).1.length) : readD (crashD M changes tails) s = ((flN M f).1, 0) := by
  obtain ⟨j, hj, h1, x, hx, h2⟩ := found_at M.files tails 0 h
  rw [Nat.zero_add] at h1
  unfold flN at hs
  have hx0 : x = 0 := by omega
  subst hx0
  unfold readD
  rw [if_neg (by simp [crashD]), show findN (crashD M changes tails).names s = some j from h1]
  show ((((foundL M.files tails 0 (leftD M changes)).getD j ([], 0)).1), (0 : Int)) = _
  rw [h2, Nat.add_zero, hs, List.take_length]; rfl
abbrev nF : ByteArray := { data := #[102] }
abbrev nN : ByteArray := { data := #[102, 46, 110, 101, 119] }
/-- the disk of DiskTurns -/
def turnsD (a b : List Int) : DK := ⟨1000, 8, [(a, a.length), (b, b.length)], [(nF, 1)], [(nF, 0)], [⟨none, some (nN, 1)⟩, ⟨some nN, some (nF, 1)⟩], [], none, false⟩
theorem turns_made {a b : List Int} (ha : a.length ≤ 100) (hb : b.length ≤ 100) :
    renameD (syncD (appendD (createD (syncDirD (syncD (appendD (createD (newD 1000) nF).1 nF a).1 nF).1).1 nN).1 nN b).1 nN).1 nN nF = (turnsD a b, 0) := by
  have e1 : createD (newD 1000) nF = (⟨1000, 1, [([], 0)], [(nF, 0)], [], [⟨none, some (nF, 0)⟩], [], none, false⟩, 0) := create_eq (M := newD 1000) ⟨rfl, rfl, rfl⟩ (by decide) rfl (by decide)
  have e2 : appendD ⟨1000, 1, [([], 0)], [(nF, 0)], [], [⟨none, some (nF, 0)⟩], [], none, false⟩ nF a = (⟨1000, 2, [(a, 0)], [(nF, 0)], [], [⟨none, some (nF, 0)⟩], [], none, false⟩, 0) :=
    append_eq (M := ⟨1000, 1, [([], 0)], [(nF, 0)], [], [⟨none, some (nF, 0)⟩], [], none, false⟩) (f := 0) ⟨rfl, rfl, rfl⟩ rfl (by show ((0 + a.length : Nat) : Int) ≤ 1000; omega)
  have e3 : syncD ⟨1000, 2, [(a, 0)], [(nF, 0)], [], [⟨none, some (nF, 0)⟩], [], none, false⟩ nF = (⟨1000, 3, [(a, a.length)], [(nF, 0)], [], [⟨none, some (nF, 0)⟩], [], none, false⟩, 0) :=
    sync_eq (M := ⟨1000, 2, [(a, 0)], [(nF, 0)], [], [⟨none, some (nF, 0)⟩], [], none, false⟩) (f := 0) ⟨rfl, rfl, rfl⟩ rfl
  have e4 : syncDirD ⟨1000, 3, [(a, a.length)], [(nF, 0)], [], [⟨none, some (nF, 0)⟩], [], none, false⟩ = (⟨1000, 4, [(a, a.length)], [(nF, 0)], [(nF, 0)], [], [], none, false⟩, 0) :=
    syncDir_eq (M := ⟨1000, 3, [(a, a.length)], [(nF, 0)], [], [⟨none, some (nF, 0)⟩], [], none, false⟩) ⟨rfl, rfl, rfl⟩
  have e5 : createD ⟨1000, 4, [(a, a.length)], [(nF, 0)], [(nF, 0)], [], [], none, false⟩ nN = (⟨1000, 5, [(a, a.length), ([], 0)], [(nF, 0), (nN, 1)], [(nF, 0)], [⟨none, some (nN, 1)⟩], [], none, false⟩, 0) :=
    (create_eq (M := ⟨1000, 4, [(a, a.length)], [(nF, 0)], [(nF, 0)], [], [], none, false⟩) ⟨rfl, rfl, rfl⟩ (by decide) (by show findN [(nF, 0)] nN = none; decide) (by show 1 < 200; omega)).trans (by
      have : withN [(nF, 0)] (nN, 1) = [(nF, 0), (nN, 1)] := by decide
      show ((⟨1000, 5, _, withN [(nF, 0)] (nN, 1), _, _, _, _, _⟩ : DK), (0 : Int)) = _
      rw [this]; rfl)
  have e6 : appendD ⟨1000, 5, [(a, a.length), ([], 0)], [(nF, 0), (nN, 1)], [(nF, 0)], [⟨none, some (nN, 1)⟩], [], none, false⟩ nN b = (⟨1000, 6, [(a, a.length), (b, 0)], [(nF, 0), (nN, 1)], [(nF, 0)], [⟨none, some (nN, 1)⟩], [], none, false⟩, 0) :=
    append_eq (M := ⟨1000, 5, [(a, a.length), ([], 0)], [(nF, 0), (nN, 1)], [(nF, 0)], [⟨none, some (nN, 1)⟩], [], none, false⟩) (f := 1) ⟨rfl, rfl, rfl⟩ (by show findN [(nF, 0), (nN, 1)] nN = some 1; decide) (by show ((a.length + 0 + b.length : Nat) : Int) ≤ 1000; omega)
  have e7 : syncD ⟨1000, 6, [(a, a.length), (b, 0)], [(nF, 0), (nN, 1)], [(nF, 0)], [⟨none, some (nN, 1)⟩], [], none, false⟩ nN = (⟨1000, 7, [(a, a.length), (b, b.length)], [(nF, 0), (nN, 1)], [(nF, 0)], [⟨none, some (nN, 1)⟩], [], none, false⟩, 0) :=
    sync_eq (M := ⟨1000, 6, [(a, a.length), (b, 0)], [(nF, 0), (nN, 1)], [(nF, 0)], [⟨none, some (nN, 1)⟩], [], none, false⟩) (f := 1) ⟨rfl, rfl, rfl⟩ (by show findN [(nF, 0), (nN, 1)] nN = some 1; decide)
  have e8 : renameD ⟨1000, 7, [(a, a.length), (b, b.length)], [(nF, 0), (nN, 1)], [(nF, 0)], [⟨none, some (nN, 1)⟩], [], none, false⟩ nN nF = (turnsD a b, 0) :=
    (rename_eq (M := ⟨1000, 7, [(a, a.length), (b, b.length)], [(nF, 0), (nN, 1)], [(nF, 0)], [⟨none, some (nN, 1)⟩], [], none, false⟩) (f := 1) ⟨rfl, rfl, rfl⟩ (by decide) (by show findN [(nF, 0), (nN, 1)] nN = some 1; decide)).trans (by
      have : doneN [(nF, 0), (nN, 1)] ⟨some nN, some (nF, 1)⟩ = [(nF, 1)] := by decide
      show ((⟨1000, 8, _, doneN [(nF, 0), (nN, 1)] ⟨some nN, some (nF, 1)⟩, _, _, _, _, _⟩ : DK), (0 : Int)) = _
      rw [this]; rfl)
  rw [e1, e2, e3, e4, e5, e6, e7, e8]
theorem turns_left (a b : List Int) (c : Int) : leftD (turnsD a b) c = if c ≤ 0 then [(nF, 0)] else if c = 1 then [(nF, 0), (nN, 1)] else [(nF, 1)] := by
  unfold leftD
  by_cases h0 : c ≤ 0
  · rw [if_pos h0, show c.toNat = 0 by omega]; rfl
  · rw [if_neg h0]
    by_cases h1 : c = 1
    · subst h1; rw [if_pos rfl]; show List.foldl doneN [(nF, 0)] [⟨none, some (nN, 1)⟩] = [(nF, 0), (nN, 1)]; decide
    · rw [if_neg h1, List.take_of_length_le (by show 2 ≤ c.toNat; omega)]; show List.foldl doneN [(nF, 0)] [⟨none, some (nN, 1)⟩, ⟨some nN, some (nF, 1)⟩] = [(nF, 1)]; decide
/-- what is found of both -/
theorem turns_found (a b : List Int) (c : Int) (ts : List Int) :
    readD (crashD (turnsD a b) c ts) nF = (if c ≤ 1 then a else b, 0) ∧ readD (crashD (turnsD a b) c ts) nN = if c = 1 then (b, 0) else ([], 30) := by
  have hl := turns_left a b c
  by_cases h0 : c ≤ 0
  · rw [if_pos h0] at hl
    rw [if_pos (show c ≤ 1 by omega), if_neg (show ¬ c = 1 by omega)]
    exact ⟨read_whole (f := 0) (by rw [hl]; decide) rfl, read_none (by rw [hl]; decide)⟩
  · rw [if_neg h0] at hl
    by_cases h1 : c = 1
    · rw [if_pos h1] at hl
      rw [if_pos (show c ≤ 1 by omega), if_pos h1]
      exact ⟨read_whole (f := 0) (by rw [hl]; decide) rfl, read_whole (f := 1) (by rw [hl]; decide) rfl⟩
    · rw [if_neg h1] at hl
      rw [if_neg (show ¬ c ≤ 1 by omega), if_neg h1]
      exact ⟨read_whole (f := 1) (by rw [hl]; decide) rfl, read_none (by rw [hl]; decide)⟩
end Go.Proofs.Ytlagmjdldplblaa
/- The disk's maps as data: from names to files' origins, from origins to files, a set of numbers; what is looked up in them, laid into them, taken out of them. -/
namespace Go.Proofs.Ytlagmjdldplblaa
open Go.ChangeShapes Go.WideShapes Go.ChangeAt Go.RowKit Go.WideMaps Go.Maps
set_option linter.unusedVariables false
set_option maxRecDepth 4000

/-- a file's origin: the step, and the name then -/
abbrev Or8 := Int × ByteArray
def oV (o : Or8) : Value := .agg #[.int .i64 o.1, .string o.2]
def eOl : List Value → Option (DataW Value × List MemPlace)
  | [.int .i64 s, .string t] => some (.held (.agg #[.int .i64 s, .string t]), [])
  | _ => none
def eO (v : Value) : Option (DataW Value × List MemPlace) := match v with
  | .agg cs => eOl cs.toList
  | _ => none
def eFl : List Value → Option (DataW Value × List MemPlace)
  | [.slice a n c, .int .i64 s] => some (.held (.agg #[.slice a n c, .int .i64 s]), [])
  | _ => none
def eF (v : Value) : Option (DataW Value × List MemPlace) := match v with
  | .agg cs => eFl cs.toList
  | _ => none
theorem eO_mk (o : Or8) : eO (oV o) = some (.held (oV o), []) := rfl
theorem eO_inv {v : Value} {y : DataW Value × List MemPlace} (h : eO v = some y) : ∃ o, v = oV o ∧ y = (.held (oV o), []) := by
  unfold eO at h
  split at h
  · rename_i cs
    unfold eOl at h
    split at h
    · rename_i s t e
      exact ⟨(s, t), congrArg Value.agg (Array.ext' e), (Option.some.inj h).symm⟩
    · cases h
  · cases h
/-- a file's value -/
def fV (a : Option Addr) (n c : Nat) (s : Int) : Value := .agg #[.slice a n c, .int .i64 s]
theorem eF_mk (a : Option Addr) (n c : Nat) (s : Int) : eF (fV a n c s) = some (.held (fV a n c s), []) := rfl
theorem eF_inv {v : Value} {y : DataW Value × List MemPlace} (h : eF v = some y) : ∃ a n c s, v = fV a n c s ∧ y = (.held (fV a n c s), []) := by
  unfold eF at h
  split at h
  · rename_i cs
    unfold eFl at h
    split at h
    · rename_i a n c s e
      exact ⟨a, n, c, s, congrArg Value.agg (Array.ext' e), (Option.some.inj h).symm⟩
    · cases h
  · cases h
abbrev kN (s : ByteArray) : Lit := .string s.data.toList
theorem kN_inj {s t : ByteArray} (h : kN s = kN t) : s = t := by
  have h1 : s.data.toList = t.data.toList := by simpa [kN] using h
  exact ByteArray.ext (Array.ext' h1)
theorem bl_before : ∀ a b : List UInt8, bytesBefore a b = Op.bytesLess a b
  | [], [] => rfl
  | [], _ :: _ => rfl
  | _ :: _, [] => rfl
  | a :: x, b :: y => by rw [bytesBefore, Op.bytesLess, bl_before x y]
theorem kN_before (s t : ByteArray) : (kN s).before (kN t) = ltN s t := bl_before _ _
theorem kN_same (s t : ByteArray) : (kN s).sameKey (kN t) = decide (s = t) := by
  rw [Bool.eq_iff_iff, decide_eq_true_iff]
  exact ⟨fun h => kN_inj (WideAt.sameKey_eq h), fun h => by rw [h]; exact WideAt.sameKey_self trivial⟩
/-- names as the map's datum -/
def nmL (og : Nat → Or8) (l : List Nm8) : List (Lit × DataW Value) := l.map fun n => (kN n.1, .held (oV (og n.2)))
def nmD (og : Nat → Or8) (l : List Nm8) : DataW Value := .map (nmL og l)
theorem nm_insert (og : Nat → Or8) (n : Nm8) : ∀ l, DataW.insert (kN n.1, .held (oV (og n.2))) (nmL og l) = nmL og (insN n l)
  | [] => rfl
  | x :: l => by
    show (if (kN n.1).before (kN x.1) = true then _ else _) = _
    rw [kN_before, insN]
    by_cases h : ltN n.1 x.1 = true
    · rw [if_pos h, if_pos h]; rfl
    · rw [if_neg h, if_neg h]
      show _ :: DataW.insert _ (nmL og l) = _
      rw [nm_insert og n l]; rfl
theorem nm_filter (og : Nat → Or8) (s : ByteArray) : ∀ l, (nmL og l).filter (fun p => !p.1.sameKey (kN s)) = nmL og (withoutN l s)
  | [] => rfl
  | x :: l => by
    have ih := nm_filter og s l
    unfold withoutN at ih ⊢
    rw [List.filter_cons]
    show List.filter _ ((kN x.1, DataW.held (oV (og x.2))) :: nmL og l) = _
    rw [List.filter_cons]
    simp only [kN_same]
    by_cases h : x.1 = s
    · simp only [h, decide_true, Bool.not_true, Bool.false_eq_true, if_false, ne_eq, not_true_eq_false, decide_false]
      exact ih
    · simp only [h, decide_false, Bool.not_false, if_true, ne_eq, not_false_eq_true, decide_true]
      rw [ih]; rfl
theorem nm_put (og : Nat → Or8) (l : List Nm8) (s : ByteArray) (f : Nat) : (nmD og l).put (kN s) (.held (oV (og f))) = nmD og (withN l (s, f)) := by
  show DataW.map (DataW.insert _ ((nmL og l).filter _)) = _
  rw [nm_filter, nm_insert og (s, f)]; rfl
theorem nm_del (og : Nat → Or8) (l : List Nm8) (s : ByteArray) : (nmD og l).del (kN s) = nmD og (withoutN l s) := by
  show DataW.map ((nmL og l).filter _) = _
  rw [nm_filter]; rfl
theorem nm_size (og : Nat → Or8) (l : List Nm8) : Maps.size (nmD og l) = l.length := by simp [nmD, nmL, Maps.size]
theorem nm_has (og : Nat → Or8) (s : ByteArray) : ∀ l, Maps.has (nmD og l) (kN s) = (findN l s).isSome
  | [] => rfl
  | x :: l => by
    have ih := nm_has og s l
    show ((kN x.1).sameKey (kN s) || Maps.has (nmD og l) (kN s)) = _
    rw [kN_same, ih, findN]
    by_cases h : x.1 = s
    · simp [h]
    · simp [h]
theorem nm_at (og : Nat → Or8) (s : ByteArray) (z : DataW Value) : ∀ l, (nmD og l).atKey (kN s) z = match findN l s with | some f => .held (oV (og f)) | none => z
  | [] => rfl
  | x :: l => by
    have ih := nm_at og s z l
    simp only [nmD, DataW.atKey, nmL, List.map_cons, List.find?_cons, findN] at ih ⊢
    simp only [kN_same]
    by_cases h : x.1 = s
    · simp [h]
    · simp only [h, decide_false, if_false]
      exact ih
theorem nm_congr {og og' : Nat → Or8} {l : List Nm8} (h : ∀ n ∈ l, og' n.2 = og n.2) : nmD og' l = nmD og l := by
  unfold nmD nmL
  congr 1
  exact List.map_congr_left (fun n hn => by rw [h n hn])

theorem law8N : Keyed Try.prog 9 := string_keyed Try.underlying9
theorem law8O : Keyed Try.prog 83 := Keyed.of_law (deep_law_laid (m := 9999) (by kernel_rfl) (by omega) (of_decide_eq_true (by kernel_rfl)) (by kernel_rfl) (by kernel_rfl))
theorem law8I : Keyed Try.prog 3 := int_keyed Try.underlying3
theorem keyN {s : ByteArray} (h : s.size ≤ maxLen) : keyOf Try.prog 9 (.string s) = some (kN s) := keyOf_string_mk Try.underlying9 h
/-- an origin as a key -/
def kO (o : Or8) : Lit := .string (keyBytes [.int .i64 o.1, .string o.2.data.toList])
theorem wf8 {x : Int} (h0 : -1000000 ≤ x) (h1 : x ≤ 1000000) : (Lit.int .i64 x).wf = true := by
  have h1 : IntKind.i64.min = -9223372036854775808 := by decide
  have h2 : IntKind.i64.max = 9223372036854775807 := by decide
  simp [Lit.wf]; omega
theorem keyLits8 {o : Or8} (hm : o.2.size ≤ maxLen) (hw : (Lit.int .i64 o.1).wf = true) (hc : Try.prog.cellsOf 83 = 2) (hz : Try.prog.cellsOf 3 = 1) (hz2 : Try.prog.cellsOf 9 = 1) (d : Nat) :
    Try.prog.keyLits (d + 1 + 1) 83 [.int .i64 o.1, .string o.2] = some [.int .i64 o.1, .string o.2.data.toList] := by
  simp [Program.keyLits, Try.underlying83, Try.underlying3, Try.underlying9, hc, hz, hz2, hw, hm]
theorem keyO {o : Or8} (h : o.2.size ≤ 1000) (h0 : 0 ≤ o.1) (h1 : o.1 ≤ 1000000) : keyOf Try.prog 83 (oV o) = some (kO o) := by
  have hk : Try.prog.keyType 83 = true := by kernel_rfl
  have hc : Try.prog.cellsOf 83 = 2 := by kernel_rfl
  have hf : Value.formed Try.prog 83 (oV o) = true := by simp [Value.formed, oV, Try.underlying83, hc]
  have hs : ∃ d, Try.prog.types.size = d + 1 := ⟨Try.prog.types.size - 1, by kernel_rfl⟩
  obtain ⟨d, hd⟩ := hs
  have hw := wf8 (x := o.1) (by omega) h1
  have hm : o.2.size ≤ maxLen := by unfold maxLen; omega
  have hl := keyLits8 hm hw hc (by kernel_rfl) (by kernel_rfl) d
  unfold keyOf
  simp only [Try.underlying83, hk, hf, Bool.and_self, if_true, hd]
  show Option.map _ (Try.prog.keyLits (d + 1 + 1) 83 [.int .i64 o.1, .string o.2]) = _
  rw [hl]; rfl
theorem kO_inj {o o' : Or8} {k : Lit} (h : keyOf Try.prog 83 (oV o) = some k) (h' : keyOf Try.prog 83 (oV o') = some k) : o = o' := by
  have := law8O.inj h h'
  unfold oV at this
  simp only [Value.agg.injEq, Array.mk.injEq, List.cons.injEq, Value.int.injEq, Value.string.injEq, true_and, and_true] at this
  exact Prod.ext this.1 this.2
theorem zero8O (w : World) : (zeroValue 83).run Try.prog w = .ok (oV (0, ⟨#[]⟩)) w := by go_simp; rfl
theorem zero8F (w : World) : (zeroValue 85).run Try.prog w = .ok (fV none 0 0 0) w := by go_simp; rfl
end Go.Proofs.Ytlagmjdldplblaa
/- A disk in memory: what its blocks hold, which they are; what is done to other blocks leaves it. -/
namespace Go.Proofs.Ytlagmjdldplblaa
open Go.ChangeShapes Go.WideShapes Go.ChangeAt Go.RowKit Go.WideMaps Go.Maps
set_option linter.unusedVariables false
set_option maxRecDepth 4000

/-- what is not of F stays -/
structure Kp (F : Nat → Prop) (w w' : World) : Prop where
  os : w'.os = w.os
  tape : w'.tape = w.tape
  output : w'.output = w.output
  size : w.heap.size ≤ w'.heap.size
  block : ∀ b, b < w.heap.size → ¬ F b → w'.heap[b]? = w.heap[b]?
theorem Kp.refl (F : Nat → Prop) (w : World) : Kp F w w := ⟨rfl, rfl, rfl, Nat.le_refl _, fun _ _ _ => rfl⟩
theorem Kp.trans {F : Nat → Prop} {a b c : World} (h : Kp F a b) (k : Kp F b c) : Kp F a c :=
  ⟨k.os.trans h.os, k.tape.trans h.tape, k.output.trans h.output, Nat.le_trans h.size k.size, fun i hi hn => (k.block i (Nat.lt_of_lt_of_le hi h.size) hn).trans (h.block i hi hn)⟩
theorem Kp.mono {F F' : Nat → Prop} {w w' : World} (h : Kp F w w') (hF : ∀ b, b < w.heap.size → F b → F' b) : Kp F' w w' :=
  ⟨h.os, h.tape, h.output, h.size, fun i hi hn => h.block i hi (fun x => hn (hF i hi x))⟩
theorem Kp.drew {F : Nat → Prop} {a w : World} (h : Kp F a w) : Kp F a w.drew := ⟨h.os, h.tape, h.output, h.size, h.block⟩
theorem Kp.alloc {F : Nat → Prop} {a w : World} (h : Kp F a w) (o : Obj) : Kp F a (w.alloc o) :=
  ⟨h.os, h.tape, h.output, by have := h.size; show _ ≤ (w.heap.push o).size; simp; omega, fun i hi hn => (Below.heap_alloc w o i (Nat.lt_of_lt_of_le hi h.size)).trans (h.block i hi hn)⟩
theorem Kp.setCell {F : Nat → Prop} {a w : World} (h : Kp F a w) {b i : Nat} (hb : F b ∨ a.heap.size ≤ b) (u : Value) : Kp F a (w.setCell ⟨b, i, none⟩ u) :=
  ⟨h.os, h.tape, h.output, by have := h.size; rw [size_set]; exact this, fun j hj hn => (Below.heap_setCell _ _ _ _ (by rintro rfl; rcases hb with hb | hb; exact hn hb; show False; have : a.heap.size ≤ j := hb; omega)).trans (h.block j hj hn)⟩
theorem Kp.grown {F : Nat → Prop} {a w w' : World} {row : Option Nat} (h : Kp F a w) (hg : w.grownBy w' row) (hr : ∀ k, row = some k → F k ∨ a.heap.size ≤ k) : Kp F a w' :=
  ⟨hg.os.trans h.os, hg.tape.trans h.tape, hg.output.trans h.output, Nat.le_trans h.size hg.size, fun i hi hn => (hg.block i (Nat.lt_of_lt_of_le hi h.size) (fun e => by rcases hr i e.symm with hk | hk; exact hn hk; omega)).trans (h.block i hi hn)⟩
theorem Kp.turned {F : Nat → Prop} {a w w' : World} {b : Nat} (h : Kp F a w) (hg : w.mapTurned w' b) (hr : F b ∨ a.heap.size ≤ b) : Kp F a w' := h.grown hg.grown (fun k hk => by cases hk; exact hr)
theorem Kp.of_below {F : Nat → Prop} {a w w' : World} {base : Nat} (h : Kp F a w) (hb : Below base w w') (hB : ∀ b, b < a.heap.size → ¬ F b → b < base) : Kp F a w' :=
  ⟨hb.os.trans h.os, hb.tape.trans h.tape, hb.output.trans h.output, Nat.le_trans h.size hb.size, fun i hi hn => (hb.block i (hB i hi hn)).trans (h.block i hi hn)⟩
/-- 'Below' of what keeps all below -/
theorem Kp.below {F : Nat → Prop} {w w' : World} {base : Nat} (h : Kp F w w') (hF : ∀ b, F b → base ≤ b) (hb : base ≤ w.heap.size) : Below base w w' :=
  ⟨h.os, h.tape, h.output, h.size, fun i hi => h.block i (by omega) (fun x => by have := hF i x; omega)⟩
theorem Kp.cell {F : Nat → Prop} {w w' : World} (h : Kp F w w') {b i : Nat} {v : Value} (hc : w.cell? ⟨b, i, none⟩ = some v) (hb : ¬ F b) : w'.cell? ⟨b, i, none⟩ = some v := cell_block (h.block b (cell_lt hc) hb) hc

/-- what became of a name, as the program has it -/
structure PC8 where
  frm : ByteArray
  to : ByteArray
  f : Nat
abbrev noN : ByteArray := { data := #[] }
def toCh (c : PC8) : Ch8 := ⟨if c.frm = noN then none else some c.frm, if c.to = noN then none else some (c.to, c.f)⟩
def chV (og : Nat → Or8) (c : PC8) : List Value := [.string c.frm, .string c.to, .int .i64 (og c.f).1, .string (og c.f).2]
def chCells (og : Nat → Or8) (l : List PC8) : List Value := l.flatMap (chV og)
/-- what a disk in memory is made of: each file's origin, its slice; blocks; what the changes say; the files' map; which files are in it; what each block is for -/
structure G8 where
  og : Nat → Or8
  sv : Nat → Value
  bF : Nat
  bN : Nat
  bK : Option Nat
  bX : Option Nat
  ch : Value
  pc : List PC8
  DF : DataW Value
  DX : DataW Value
  lv : Nat → Prop
  rl : Nat → Nat
def maxI : Int := 9223372036854775807
/-- what always holds of a disk, but of how its names came to be -/
structure Ok7 (M : DK) : Prop where
  quota : 0 ≤ M.quota
  sort : SortN M.names
  keep : SortN M.kept
  place : ∀ n ∈ M.names, n.2 < M.files.length
  kplace : ∀ n ∈ M.kept, n.2 < M.files.length
  cplace : ∀ c ∈ M.chs, ∀ n, c.to = some n → n.2 < M.files.length
  safe : ∀ x ∈ M.files, x.2 ≤ x.1.length
  one : OneN M.names
theorem OkD.ok7 {M : DK} (h : OkD M) : Ok7 M := ⟨h.quota, h.sort, h.keep, h.place, h.kplace, h.cplace, h.safe, h.one⟩
theorem Ok7.flat {M : DK} (h : Ok7 M) : OkD { M with kept := M.names, chs := [] } := ⟨h.quota, h.sort, h.sort, h.place, h.place, (fun c hc => by cases hc), h.safe, rfl, h.one⟩
theorem Ok7.fl {M : DK} (h : Ok7 M) (f : Nat) : (flN M f).2 ≤ (flN M f).1.length := h.flat.fl f
theorem Ok7.changed {M : DK} (h : Ok7 M) {c : Ch8} (hc : OkD (changeD { M with kept := M.names, chs := [] } c)) (hp : ∀ n, c.to = some n → n.2 < M.files.length) : Ok7 (changeD M c) := by
  refine ⟨h.quota, hc.sort, h.keep, hc.place, h.kplace, ?_, h.safe, hc.one⟩
  intro d hd n hn
  rcases List.mem_append.1 hd with hd | hd
  · exact h.cplace d hd n hn
  · rw [List.mem_singleton.1 hd] at hn; exact hp n hn
/-- plain bounds -/
structure Pl8 (k : Nat) (M : DK) : Prop where
  taken : M.taken ≤ k
  kc : M.kept.length + M.chs.length ≤ k
  len : ∀ x ∈ M.files, x.1.length ≤ 1000 * k
  bytes : ∀ x ∈ M.files, ∀ z ∈ x.1, 0 ≤ z ∧ z ≤ 255
  quota : M.quota ≤ maxI
  names : ∀ n ∈ M.names, okName n.1 = true
  kept : ∀ n ∈ M.kept, okName n.1 = true
  chs : ∀ c ∈ M.chs, (∀ s, c.frm = some s → okName s = true) ∧ ∀ n, c.to = some n → okName n.1 = true
  fails : ∀ x ∈ M.fails, -9223372036854775808 ≤ x ∧ x ≤ maxI
  limit : ∀ n, M.limit = some n → (n : Int) ≤ maxI
  nl : M.names.length ≤ k
def Live (M : DK) (f : Nat) : Prop := (∃ n ∈ M.names, n.2 = f) ∨ (∃ n ∈ M.kept, n.2 = f) ∨ ∃ c ∈ M.chs, ∃ n, c.to = some n ∧ n.2 = f
def Own8 (F : Nat → Prop) (rl : Nat → Nat) (r : Nat) (v : Value) : Prop := ∀ b, v.ownBlock = some b → F b ∧ rl b = r
def dC (g : G8) (M : DK) : Array Value := #[.int .i64 M.quota, .map (some g.bF), .map (some g.bN), .map g.bK, g.ch, .int .i64 (M.taken : Int), .map g.bX, .bool M.limit.isSome, .int .i64 ((M.limit.getD 0 : Nat) : Int), .bool M.dead]
def fileV (v : Value) (s : Nat) : Value := .agg #[v, .int .i64 (s : Int)]
/-- a map of names -/
def NMap (og : Nat → Or8) (rl : Nat → Nat) (w : World) (F : Nat → Prop) (r b : Nat) (l : List Nm8) : Prop := w.ownsMap Try.prog 9 eO b l.length (nmD og l) ∧ F b ∧ rl b = r
def KMap (og : Nat → Or8) (rl : Nat → Nat) (w : World) (F : Nat → Prop) (o : Option Nat) (l : List Nm8) : Prop := (o = none ∧ l = []) ∨ ∃ b, o = some b ∧ NMap og rl w F 3 b l
def XMap (rl : Nat → Nat) (D : DataW Value) (w : World) (F : Nat → Prop) (o : Option Nat) (l : List Int) : Prop := (o = none ∧ l = []) ∨ ∃ b, o = some b ∧ w.ownsMap Try.prog 3 unitElem b (Maps.size D) D ∧ (∀ x : Int, -9223372036854775808 ≤ x → x ≤ maxI → Maps.has D (.int .i64 x) = decide (x ∈ l)) ∧ F b ∧ rl b = 4
/-- the file f is in the map, and its bytes are there -/
structure FAt (g : G8) (w : World) (F : Nat → Prop) (M : DK) (f : Nat) : Prop where
  place : f < M.files.length
  has : Maps.has g.DF (kO (g.og f)) = true
  at_ : ∀ z, g.DF.atKey (kO (g.og f)) z = .held (fileV (g.sv f) (flN M f).2)
  data : OW w 0 (g.sv f) (flN M f).1
  own : Own8 F g.rl (6 + f) (g.sv f)
/-- the disk at p is M -/
structure DD (g : G8) (k : Nat) (w : World) (F : Nat → Prop) (p : Nat) (M : DK) : Prop where
  ok : Ok7 M
  pl : Pl8 k M
  org : ∀ f, f < M.files.length → 0 ≤ (g.og f).1 ∧ (g.og f).1 ≤ (M.taken : Int) ∧ (g.og f).2.size ≤ 1000
  inj : ∀ f f', f < M.files.length → f' < M.files.length → g.og f = g.og f' → f = f'
  blk : Bk w p (dC g M) 71
  foot : F p ∧ g.rl p = 0
  names : NMap g.og g.rl w F 2 g.bN M.names
  kept : KMap g.og g.rl w F g.bK M.kept
  fails : XMap g.rl g.DX w F g.bX M.fails
  files : w.ownsMap Try.prog 83 eF g.bF (Maps.size g.DF) g.DF ∧ F g.bF ∧ g.rl g.bF = 1
  fsize : Maps.size g.DF ≤ k
  live : ∀ f, Live M f → g.lv f
  each : ∀ f, g.lv f → FAt g w F M f
  chs : M.chs = g.pc.map toCh ∧ (∀ c ∈ g.pc, c.f < M.files.length)
  chv : OS 4 w 0 g.ch g.pc.length (chCells g.og g.pc) ∧ Own8 F g.rl 5 g.ch
  full : ∀ l, Maps.has g.DF l = true → ∃ f, g.lv f ∧ l = kO (g.og f)
section
variable {g : G8} {k : Nat} {w w' : World} {F F' : Nat → Prop} {p : Nat} {M : DK} {rl' : Nat → Nat}
theorem ownsMap_same {H : Type} {P : Program} {kt : TypeId} {R : Value → Option (DataW H × List MemPlace)} {b n : Nat} {D : DataW H} (h : w.ownsMap P kt R b n D) (he : w'.heap[b]? = w.heap[b]?) : w'.ownsMap P kt R b n D := by
  obtain ⟨es, clock, hb, r⟩ := h
  exact ⟨es, clock, he.trans hb, r⟩
theorem NMap.move {og : Nat → Or8} {rl : Nat → Nat} {r b : Nat} {l : List Nm8} (h : NMap og rl w F r b l) (he : F b → rl b = r → b < w.heap.size → w'.heap[b]? = w.heap[b]? ∧ F' b ∧ rl' b = r) : NMap og rl' w' F' r b l := by
  obtain ⟨h1, h2, h3⟩ := h
  obtain ⟨e1, e2, e3⟩ := he h2 h3 h1.lt
  exact ⟨ownsMap_same h1 e1, e2, e3⟩
theorem KMap.move {og : Nat → Or8} {rl : Nat → Nat} {o : Option Nat} {l : List Nm8} (h : KMap og rl w F o l) (he : ∀ b, F b → rl b = 3 → b < w.heap.size → w'.heap[b]? = w.heap[b]? ∧ F' b ∧ rl' b = 3) : KMap og rl' w' F' o l := by
  rcases h with h | ⟨b, hb, h⟩
  · exact .inl h
  · exact .inr ⟨b, hb, h.move (he b)⟩
theorem XMap.move {rl : Nat → Nat} {D : DataW Value} {o : Option Nat} {l : List Int} (h : XMap rl D w F o l) (he : ∀ b, F b → rl b = 4 → b < w.heap.size → w'.heap[b]? = w.heap[b]? ∧ F' b ∧ rl' b = 4) : XMap rl' D w' F' o l := by
  rcases h with h | ⟨b, hb, h1, h2, h3, h4⟩
  · exact .inl h
  · obtain ⟨e1, e2, e3⟩ := he b h3 h4 h1.lt
    exact .inr ⟨b, hb, ownsMap_same h1 e1, h2, e2, e3⟩
theorem OW.low0 {v : Value} {bs : List Int} {b : Nat} (h : OW w 0 v bs) (hb : v.ownBlock = some b) : b < w.heap.size := by
  rcases h with ⟨rfl, _⟩ | ⟨g, cap, cur, T, rfl, hg, hh, _⟩
  · cases hb
  · cases hb; exact heap_lt hh
theorem OS.low0 {n m : Nat} {v : Value} {cs : List Value} {b : Nat} (h : OS n w 0 v m cs) (hb : v.ownBlock = some b) : b < w.heap.size := by
  rcases h.2.2 with ⟨rfl, _⟩ | ⟨g, cap, cur, T, rfl, hg, hh, _⟩
  · cases hb
  · cases hb; exact heap_lt hh
theorem OW.same8 {v : Value} {bs : List Int} (h : OW w 0 v bs) (he : ∀ g, v.ownBlock = some g → g < w.heap.size → w'.heap[g]? = w.heap[g]?) : OW w' 0 v bs := by
  rcases h with h | ⟨g, cap, cur, T, rfl, h2, h3, h4⟩
  · exact .inl h
  · exact .inr ⟨g, cap, cur, T, rfl, h2, (he g rfl (heap_lt h3)).trans h3, h4⟩
theorem OS.same8 {n m : Nat} {v : Value} {cs : List Value} (h : OS n w 0 v m cs) (he : ∀ g, v.ownBlock = some g → g < w.heap.size → w'.heap[g]? = w.heap[g]?) : OS n w' 0 v m cs := by
  obtain ⟨h1, h2, h3⟩ := h
  refine ⟨h1, h2, ?_⟩
  rcases h3 with h3 | ⟨g, cap, cur, T, rfl, hg, hh, hr⟩
  · exact .inl h3
  · exact .inr ⟨g, cap, cur, T, rfl, hg, (he g rfl (heap_lt hh)).trans hh, hr⟩
/-- it stays while other blocks are written; what the blocks are for may be told anew -/
theorem DD.move (h : DD g k w F p M) (rl' : Nat → Nat) (he : ∀ b, F b → b < w.heap.size → w'.heap[b]? = w.heap[b]? ∧ F' b ∧ rl' b = g.rl b) : DD { g with rl := rl' } k w' F' p M := by
  have hw : ∀ (r b : Nat), F b → g.rl b = r → b < w.heap.size → w'.heap[b]? = w.heap[b]? ∧ F' b ∧ rl' b = r := fun r b h1 h2 h3 => by
    obtain ⟨e1, e2, e3⟩ := he b h1 h3
    exact ⟨e1, e2, e3.trans h2⟩
  refine ⟨h.ok, h.pl, h.org, h.inj, ?_, ?_, h.names.move (hw 2 _), h.kept.move (hw 3), h.fails.move (hw 4), ?_, h.fsize, h.live, ?_, h.chs, ?_, h.full⟩
  · exact (he p h.foot.1 h.blk.lt).1.trans h.blk
  · obtain ⟨e1, e2, e3⟩ := he p h.foot.1 h.blk.lt
    exact ⟨e2, e3.trans h.foot.2⟩
  · obtain ⟨h1, h2, h3⟩ := h.files
    obtain ⟨e1, e2, e3⟩ := hw 1 _ h2 h3 h1.lt
    exact ⟨ownsMap_same h1 e1, e2, e3⟩
  · intro f hf
    have hx := h.each f hf
    refine ⟨hx.place, hx.has, hx.at_, hx.data.same8 (fun b hb hl => ?_), fun b hb => ?_⟩
    · exact (he b (hx.own b hb).1 hl).1
    · exact (hw _ b (hx.own b hb).1 (hx.own b hb).2 (hx.data.low0 hb)).2
  · refine ⟨h.chv.1.same8 (fun b hb hl => (he b (h.chv.2 b hb).1 hl).1), fun b hb => ?_⟩
    exact (hw _ b (h.chv.2 b hb).1 (h.chv.2 b hb).2 (h.chv.1.low0 hb)).2
theorem DD.same (h : DD g k w F p M) (he : ∀ b, F b → b < w.heap.size → w'.heap[b]? = w.heap[b]?) : DD g k w' F p M := h.move (F' := F) g.rl (fun b h1 h2 => ⟨he b h1 h2, h1, rfl⟩)
theorem DD.drew (h : DD g k w F p M) : DD g k w.drew F p M := h.same (fun _ _ _ => rfl)
theorem DD.alloc (h : DD g k w F p M) (o : Obj) : DD g k (w.alloc o) F p M := h.same (fun b _ hl => Below.heap_alloc w o b hl)
theorem DD.refoot (h : DD g k w F p M) (hF : ∀ b, F b → b < w.heap.size → F' b) : DD g k w F' p M := h.move g.rl (fun b h1 h2 => ⟨rfl, hF b h1 h2, rfl⟩)
theorem DD.below (h : DD g k w F p M) (hb : Below w.heap.size w w') : DD g k w' F p M := h.same (fun b _ hl => hb.block b hl)
theorem DD.set (h : DD g k w F p M) {b i : Nat} (hb : ¬ F b) (u : Value) : DD g k (w.setCell ⟨b, i, none⟩ u) F p M := h.same (fun c hc _ => Below.heap_setCell _ _ _ _ (fun e => hb (by have e' : c = b := e; rw [← e']; exact hc)))
/-- only the disk's own cells turn -/
theorem DD.hdr (h : DD g k w F p M) (q : Nat) (M' : DK) (hf : M'.files = M.files) (hn : M'.names = M.names) (hk : M'.kept = M.kept) (hc : M'.chs = M.chs) (hx : M'.fails = M.fails) (hq : M'.quota = M.quota) (ht : M.taken ≤ M'.taken) (ht' : M'.taken ≤ q) (hl : ∀ n, M'.limit = some n → (n : Int) ≤ maxI) (hkq : k ≤ q)
    (hb : Bk w' p (dC g M') 71) (he : ∀ b, F b → b ≠ p → b < w.heap.size → w'.heap[b]? = w.heap[b]?) : DD g q w' F p M' := by
  have hne : ∀ (r b : Nat), F b → g.rl b = r → r ≠ 0 → b < w.heap.size → w'.heap[b]? = w.heap[b]? ∧ F b ∧ g.rl b = r := fun r b h1 h2 h3 h4 => ⟨he b h1 (fun e => h3 (by rw [← h2, e]; exact h.foot.2)) h4, h1, h2⟩
  have hfl : ∀ f, flN M' f = flN M f := fun f => by unfold flN; rw [hf]
  obtain ⟨o1, o2, o3, o4, o5, o6, o7, o9⟩ := h.ok
  obtain ⟨p1, p2, p3, p4, p5, p6, p7, p8, p9, p10, p11⟩ := h.pl
  refine ⟨⟨by rw [hq]; exact o1, by rw [hn]; exact o2, by rw [hk]; exact o3, by rw [hn, hf]; exact o4, by rw [hk, hf]; exact o5, by rw [hc, hf]; exact o6, by rw [hf]; exact o7, by rw [hn]; exact o9⟩,
    ⟨ht', by rw [hk, hc]; omega, fun x hx => by rw [hf] at hx; have := p3 x hx; omega, by rw [hf]; exact p4, by rw [hq]; exact p5, by rw [hn]; exact p6, by rw [hk]; exact p7, by rw [hc]; exact p8, by rw [hx]; exact p9, hl, by rw [hn]; omega⟩, ?_, ?_, hb, h.foot, ?_, ?_, ?_, ?_, by have := h.fsize; omega, ?_, ?_, ?_, ?_, h.full⟩
  · intro f hf'; rw [hf] at hf'; obtain ⟨a1, a2, a3⟩ := h.org f hf'; exact ⟨a1, by omega, a3⟩
  · rw [hf]; exact h.inj
  · rw [hn]; exact h.names.move (fun h1 h2 h3 => hne 2 _ h1 h2 (by omega) h3)
  · rw [hk]; exact h.kept.move (fun b h1 h2 h3 => hne 3 _ h1 h2 (by omega) h3)
  · rw [hx]; exact h.fails.move (fun b h1 h2 h3 => hne 4 _ h1 h2 (by omega) h3)
  · obtain ⟨h1, h2, h3⟩ := h.files
    exact ⟨ownsMap_same h1 (hne 1 _ h2 h3 (by omega) h1.lt).1, h2, h3⟩
  · intro f hv; refine h.live f ?_
    unfold Live at hv ⊢; rwa [hn, hk, hc] at hv
  · intro f hv
    have hx := h.each f hv
    exact ⟨by rw [hf]; exact hx.place, hx.has, by rw [hfl]; exact hx.at_, by rw [hfl]; exact hx.data.same8 (fun b hb hl => (hne _ b (hx.own b hb).1 (hx.own b hb).2 (by omega) hl).1), hx.own⟩
  · rw [hc, hf]; exact h.chs
  · exact ⟨h.chv.1.same8 (fun b hb hl => (hne _ b (h.chv.2 b hb).1 (h.chv.2 b hb).2 (by omega) hl).1), h.chv.2⟩
end
/-- what is of I, and what is new -/
abbrev AndNew (I : Nat → Prop) (w w' : World) : Nat → Prop := fun x => I x ∨ (w.heap.size ≤ x ∧ x < w'.heap.size)
theorem Kp.of_new {F : Nat → Prop} {w w' : World} (hb : Below w.heap.size w w') : Kp F w w' := ⟨hb.os, hb.tape, hb.output, hb.size, fun b hl _ => hb.block b hl⟩
end Go.Proofs.Ytlagmjdldplblaa
