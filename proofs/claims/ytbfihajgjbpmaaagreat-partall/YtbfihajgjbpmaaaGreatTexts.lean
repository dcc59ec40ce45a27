/- Texts that belong together, one behind the other: T6p, T6q, M6, T6a, T6b, T6c, T6r, T6s, T6u, T6v. -/
import Derived.Test.YtbfihajgjbpmaaaGreatBase
import Derived.Maps.OwnSet
import Derived.Maps.OwnOps
/- Plain facts on columns of texts: how they are put, in both ways, and that they are put in one way. -/
namespace Go.Proofs.YtbfihajgjbpmaaaGreat
set_option linter.unusedVariables false
set_option maxRecDepth 4000

/-- texts that are not too long to be -/
abbrev Fit63 (l : List ByteArray) : Prop := ∀ s ∈ l, s.size ≤ 9223372036854775807
/-- each text whole -/
def eachL : List ByteArray → List Int
  | [] => []
  | s :: l => pv (s.size : Int) ++ (nums s ++ eachL l)
theorem eachL_app : ∀ a b, eachL (a ++ b) = eachL a ++ eachL b
  | [], b => rfl
  | s :: a, b => by rw [List.cons_append, eachL, eachL, eachL_app a b, List.append_assoc, List.append_assoc]
theorem eachL_snoc (l : List ByteArray) (s : ByteArray) : eachL (l ++ [s]) = eachL l ++ (pv (s.size : Int) ++ nums s) := by
  rw [eachL_app, eachL, eachL, List.append_nil]
theorem eachL_bytes : ∀ l, ∀ z ∈ eachL l, 0 ≤ z ∧ z ≤ 255
  | [], z, hz => by cases hz
  | s :: l, z, hz => by
    rw [eachL] at hz
    rcases List.mem_append.1 hz with hz | hz
    · exact pv_bytes (by omega) z hz
    · rcases List.mem_append.1 hz with hz | hz
      · exact nums_bytes s z hz
      · exact eachL_bytes l z hz
/-- texts are cut off in one way -/
theorem text_cut {s t : ByteArray} {a b : List Int} (hs : s.size ≤ 9223372036854775807) (ht : t.size ≤ 9223372036854775807) (h : pv (s.size : Int) ++ (nums s ++ a) = pv (t.size : Int) ++ (nums t ++ b)) : s = t ∧ a = b := by
  obtain ⟨e1, e2⟩ := pv_cut (by omega) (by omega) h
  obtain ⟨e3, e4⟩ := List.append_inj e2 (by rw [nums_len, nums_len]; omega)
  exact ⟨nums_inj e3, e4⟩
theorem eachL_cut : ∀ (l k : List ByteArray), Fit63 l → Fit63 k → l.length = k.length → ∀ {r r' : List Int}, eachL l ++ r = eachL k ++ r' → l = k ∧ r = r'
  | [], [], _, _, _, r, r', h => ⟨rfl, h⟩
  | [], _ :: _, _, _, hn, _, _, _ => by simp at hn
  | _ :: _, [], _, _, hn, _, _, _ => by simp at hn
  | s :: l, t :: k, hl, hk, hn, r, r', h => by
    rw [eachL, eachL, List.append_assoc, List.append_assoc, List.append_assoc, List.append_assoc] at h
    obtain ⟨e1, e2⟩ := text_cut (hl s (List.mem_cons_self ..)) (hk t (List.mem_cons_self ..)) h
    obtain ⟨e3, e4⟩ := eachL_cut l k (fun x hx => hl x (List.mem_cons_of_mem _ hx)) (fun x hx => hk x (List.mem_cons_of_mem _ hx)) (by simpa using hn) e2
    exact ⟨by rw [e1, e3], e4⟩
/-- whether a text is there -/
def thereB (ws : List ByteArray) (s : ByteArray) : Bool := ws.any (fun x => decide (x = s))
theorem there_iff {ws : List ByteArray} {s : ByteArray} : thereB ws s = true ↔ s ∈ ws := by
  unfold thereB
  rw [List.any_eq_true]
  exact ⟨fun ⟨x, hx, h⟩ => by rw [← of_decide_eq_true h]; exact hx, fun h => ⟨s, h, decide_eq_true rfl⟩⟩
theorem there_not {ws : List ByteArray} {s : ByteArray} : thereB ws s = false ↔ s ∉ ws := by
  rw [← there_iff]; simp
/-- one more -/
def addW (ws : List ByteArray) (s : ByteArray) : List ByteArray := if thereB ws s = true then ws else ws ++ [s]
/-- the unlike ones, in the order in which they come first, behind those that there were -/
def wordsF : List ByteArray → List ByteArray → List ByteArray
  | ws, [] => ws
  | ws, s :: l => wordsF (addW ws s) l
def words (l : List ByteArray) : List ByteArray := wordsF [] l
theorem wordsF_snoc : ∀ (l ws : List ByteArray) (s : ByteArray), wordsF ws (l ++ [s]) = addW (wordsF ws l) s
  | [], ws, s => rfl
  | x :: l, ws, s => by rw [List.cons_append, wordsF, wordsF, wordsF_snoc l]
theorem words_snoc (l : List ByteArray) (s : ByteArray) : words (l ++ [s]) = addW (words l) s := wordsF_snoc l [] s
theorem addW_mem {ws : List ByteArray} {s x : ByteArray} : x ∈ addW ws s ↔ x ∈ ws ∨ x = s := by
  unfold addW
  by_cases h : s ∈ ws
  · rw [if_pos (there_iff.2 h)]
    exact ⟨.inl, fun h' => h'.elim id (fun e => by rw [e]; exact h)⟩
  · rw [if_neg (by rw [there_iff]; exact h)]; simp
theorem addW_nodup {ws : List ByteArray} {s : ByteArray} (h : ws.Nodup) : (addW ws s).Nodup := by
  unfold addW
  by_cases hs : s ∈ ws
  · rw [if_pos (there_iff.2 hs)]; exact h
  · rw [if_neg (by rw [there_iff]; exact hs)]
    rw [List.nodup_append]
    refine ⟨h, by simp, ?_⟩
    intro a ha b hb hab
    rw [List.mem_singleton] at hb
    exact hs (by rw [← hb, ← hab]; exact ha)
theorem wordsF_mem : ∀ (l ws : List ByteArray) (x : ByteArray), x ∈ wordsF ws l ↔ x ∈ ws ∨ x ∈ l
  | [], ws, x => by simp [wordsF]
  | s :: l, ws, x => by
    rw [wordsF, wordsF_mem l, addW_mem, List.mem_cons, or_assoc]
theorem words_mem (l : List ByteArray) (x : ByteArray) : x ∈ words l ↔ x ∈ l := by rw [words, wordsF_mem]; simp
theorem wordsF_nodup : ∀ (l ws : List ByteArray), ws.Nodup → (wordsF ws l).Nodup
  | [], ws, h => h
  | s :: l, ws, h => wordsF_nodup l _ (addW_nodup h)
theorem words_nodup (l : List ByteArray) : (words l).Nodup := wordsF_nodup l [] List.nodup_nil
theorem wordsF_len : ∀ (l ws : List ByteArray), (wordsF ws l).length ≤ ws.length + l.length
  | [], ws => by simp [wordsF]
  | s :: l, ws => by
    rw [wordsF]
    have := wordsF_len l (addW ws s)
    have h2 : (addW ws s).length ≤ ws.length + 1 := by unfold addW; split <;> simp
    rw [List.length_cons]; omega
theorem words_len (l : List ByteArray) : (words l).length ≤ l.length := by have := wordsF_len l []; simpa [words] using this
/-- the place of a text: how many there are, if it is not there -/
def placeB : List ByteArray → ByteArray → Nat
  | [], _ => 0
  | x :: ws, s => if x = s then 0 else placeB ws s + 1
theorem place_app : ∀ {ws : List ByteArray} {s : ByteArray} (r : List ByteArray), s ∈ ws → placeB (ws ++ r) s = placeB ws s
  | x :: ws, s, r, h => by
    rw [List.cons_append, placeB, placeB]
    by_cases hx : x = s
    · rw [if_pos hx, if_pos hx]
    · rw [if_neg hx, if_neg hx, place_app r ((List.mem_cons.1 h).resolve_left (fun e => hx e.symm))]
theorem place_le : ∀ (ws : List ByteArray) (s : ByteArray), placeB ws s ≤ ws.length
  | [], s => Nat.le_refl _
  | x :: ws, s => by
    have := place_le ws s
    rw [placeB, List.length_cons]; split <;> omega
theorem place_get : ∀ {ws : List ByteArray} {s : ByteArray}, s ∈ ws → ws[placeB ws s]? = some s
  | x :: ws, s, h => by
    rw [placeB]
    by_cases hx : x = s
    · rw [if_pos hx, hx]; rfl
    · rw [if_neg hx, List.getElem?_cons_succ]
      exact place_get ((List.mem_cons.1 h).resolve_left (fun e => hx e.symm))
theorem place_lt {ws : List ByteArray} {s : ByteArray} (h : s ∈ ws) : placeB ws s < ws.length := (List.getElem?_eq_some_iff.1 (place_get h)).1
theorem place_not : ∀ {ws : List ByteArray} {s : ByteArray}, s ∉ ws → placeB ws s = ws.length
  | [], s, _ => rfl
  | x :: ws, s, h => by
    have h1 : x ≠ s := fun e => h (by rw [e]; exact List.mem_cons_self ..)
    have h2 : s ∉ ws := fun e => h (List.mem_cons_of_mem _ e)
    rw [placeB, if_neg h1, place_not h2, List.length_cons]
theorem place_inj {ws : List ByteArray} {s t : ByteArray} (hs : s ∈ ws) (ht : t ∈ ws) (h : placeB ws s = placeB ws t) : s = t := by
  have h1 := place_get hs
  rw [h, place_get ht] at h1
  exact (Option.some.inj h1).symm
/-- in a list of unlike ones the place is the place -/
theorem place_at : ∀ {ws : List ByteArray} {s : ByteArray} {i : Nat}, ws.Nodup → ws[i]? = some s → placeB ws s = i
  | [], s, i, _, h => by simp at h
  | x :: ws, s, 0, hn, h => by
    rw [placeB, if_pos (by simpa using h)]
  | x :: ws, s, i + 1, hn, h => by
    rw [List.getElem?_cons_succ] at h
    have hm : s ∈ ws := List.mem_of_getElem? h
    rw [List.nodup_cons] at hn
    rw [placeB, if_neg (fun e => hn.1 (by rw [e]; exact hm)), place_at hn.2 h]
/-- the places of texts -/
def placesL (l : List ByteArray) : List Int := l.map (fun s => (placeB (words l) s : Int))
theorem places_len (l : List ByteArray) : (placesL l).length = l.length := by simp [placesL]
theorem places_snoc (l : List ByteArray) (s : ByteArray) : placesL (l ++ [s]) = placesL l ++ [(placeB (words l) s : Int)] := by
  unfold placesL
  rw [List.map_append, words_snoc]
  congr 1
  · refine List.map_congr_left (fun x hx => ?_)
    have hm : x ∈ words l := (words_mem l x).2 hx
    unfold addW
    split
    · rfl
    · rw [place_app _ hm]
  · rw [List.map_cons, List.map_nil]
    unfold addW
    by_cases h : s ∈ words l
    · rw [if_pos (there_iff.2 h)]
    · rw [if_neg (by rw [there_iff]; exact h), place_not h, place_at (i := (words l).length) _ (by simp)]
      have := words_nodup (l ++ [s])
      rw [words_snoc] at this
      unfold addW at this
      rwa [if_neg (by rw [there_iff]; exact h)] at this
/-- the texts by their places -/
def dictL (l : List ByteArray) : List Int := pv ((words l).length : Int) ++ (eachL (words l) ++ joinN (placesL l))
theorem places_u64 {l : List ByteArray} (h : l.length ≤ 9223372036854775807) : U64s (placesL l) := by
  intro x hx
  obtain ⟨s, hs, rfl⟩ := List.mem_map.1 hx
  have := place_lt ((words_mem l s).2 hs)
  have := words_len l
  omega
theorem joinN_bytes : ∀ {l : List Int}, U64s l → ∀ z ∈ joinN l, 0 ≤ z ∧ z ≤ 255
  | [], _, z, hz => by cases hz
  | x :: l, h, z, hz => by
    rw [joinN] at hz
    rcases List.mem_append.1 hz with hz | hz
    · exact pv_bytes (h x (List.mem_cons_self ..)).1 z hz
    · exact joinN_bytes (fun y hy => h y (List.mem_cons_of_mem _ hy)) z hz
theorem dictL_bytes {l : List ByteArray} (h : l.length ≤ 9223372036854775807) : ∀ z ∈ dictL l, 0 ≤ z ∧ z ≤ 255 := by
  intro z hz
  rcases List.mem_append.1 hz with hz | hz
  · exact pv_bytes (by omega) z hz
  · rcases List.mem_append.1 hz with hz | hz
    · exact eachL_bytes _ z hz
    · exact joinN_bytes (places_u64 h) z hz
/-- numbers are cut off in one way -/
theorem joinN_cut : ∀ (a b : List Int), U64s a → U64s b → a.length = b.length → ∀ {r r' : List Int}, joinN a ++ r = joinN b ++ r' → a = b ∧ r = r'
  | [], [], _, _, _, r, r', h => ⟨rfl, h⟩
  | [], _ :: _, _, _, hn, _, _, _ => by simp at hn
  | _ :: _, [], _, _, hn, _, _, _ => by simp at hn
  | x :: a, y :: b, ha, hb, hn, r, r', h => by
    rw [joinN, joinN, List.append_assoc, List.append_assoc] at h
    obtain ⟨e1, e2⟩ := pv_cut (ha x (List.mem_cons_self ..)) (hb y (List.mem_cons_self ..)) h
    obtain ⟨e3, e4⟩ := joinN_cut a b (fun z hz => ha z (List.mem_cons_of_mem _ hz)) (fun z hz => hb z (List.mem_cons_of_mem _ hz)) (by simpa using hn) e2
    exact ⟨by rw [e1, e3], e4⟩
/-- texts are told by their words and places -/
theorem places_tell {l k : List ByteArray} (hw : words l = words k) (hp : placesL l = placesL k) : l = k := by
  have hl : l.length = k.length := by rw [← places_len l, hp, places_len]
  refine List.ext_getElem hl (fun i h1 h2 => ?_)
  have e : (placesL l)[i]? = (placesL k)[i]? := by rw [hp]
  simp only [placesL, List.getElem?_map, List.getElem?_eq_getElem h1, List.getElem?_eq_getElem h2, Option.map_some, Option.some.injEq] at e
  rw [hw] at e
  exact place_inj (by rw [← hw]; exact (words_mem l _).2 (List.getElem_mem h1)) ((words_mem k _).2 (List.getElem_mem h2)) (by omega)
theorem words_fit {l : List ByteArray} (h : Fit63 l) : Fit63 (words l) := fun s hs => h s ((words_mem l s).1 hs)
theorem dictL_cut {l k : List ByteArray} (hl : Fit63 l) (hk : Fit63 k) (hn : l.length = k.length) (h63 : l.length ≤ 9223372036854775807) {r r' : List Int} (h : dictL l ++ r = dictL k ++ r') : l = k ∧ r = r' := by
  have w1 := words_len l
  have w2 := words_len k
  rw [dictL, dictL] at h
  simp only [List.append_assoc] at h
  obtain ⟨e1, e2⟩ := pv_cut (by omega) (by omega) h
  obtain ⟨e3, e4⟩ := eachL_cut _ _ (words_fit hl) (words_fit hk) (by omega) e2
  obtain ⟨e5, e6⟩ := joinN_cut _ _ (places_u64 h63) (places_u64 (by omega)) (by rw [places_len, places_len]; exact hn) e4
  exact ⟨places_tell e3 e5, e6⟩
/-- which way is the shorter one -/
def shortT (l : List ByteArray) : Bool := decide ((dictL l).length < (eachL l).length)
def bodyT (l : List ByteArray) : List Int := if shortT l = true then 1 :: dictL l else 0 :: eachL l
/-- how texts are put -/
def putT (l : List ByteArray) : List Int := pv (l.length : Int) ++ bodyT l
theorem bodyT_len (l : List ByteArray) : 1 ≤ (bodyT l).length ∧ (bodyT l).length ≤ (eachL l).length + 1 := by
  unfold bodyT
  split
  · rename_i h
    have := of_decide_eq_true h
    simp; omega
  · simp
theorem bodyT_bytes {l : List ByteArray} (h : l.length ≤ 9223372036854775807) : ∀ z ∈ bodyT l, 0 ≤ z ∧ z ≤ 255 := by
  intro z hz
  unfold bodyT at hz
  split at hz
  · rcases List.mem_cons.1 hz with rfl | hz
    · omega
    · exact dictL_bytes h z hz
  · rcases List.mem_cons.1 hz with rfl | hz
    · omega
    · exact eachL_bytes l z hz
theorem putT_bytes {l : List ByteArray} (h : l.length ≤ 9223372036854775807) : ∀ z ∈ putT l, 0 ≤ z ∧ z ≤ 255 := by
  intro z hz
  rcases List.mem_append.1 hz with hz | hz
  · exact pv_bytes (by omega) z hz
  · exact bodyT_bytes h z hz
/-- what was put begins nothing else that was put -/
theorem putT_begin {l k : List ByteArray} (hl : Fit63 l) (hk : Fit63 k) (hn : l.length ≤ 9223372036854775807) (hn' : k.length ≤ 9223372036854775807) {r : List Int} (h : putT l ++ r = putT k) : l = k ∧ r = [] := by
  rw [putT, putT, List.append_assoc] at h
  obtain ⟨e1, e2⟩ := pv_cut (by omega) (by omega) h
  have hnn : l.length = k.length := by omega
  unfold bodyT at e2
  by_cases h1 : shortT l = true
  · by_cases h2 : shortT k = true
    · rw [if_pos h1, if_pos h2, List.cons_append, List.cons.injEq] at e2
      exact dictL_cut hl hk hnn hn (r' := []) (by rw [List.append_nil]; exact e2.2)
    · rw [if_pos h1, if_neg h2, List.cons_append, List.cons.injEq] at e2
      exact absurd e2.1 (by decide)
  · by_cases h2 : shortT k = true
    · rw [if_neg h1, if_pos h2, List.cons_append, List.cons.injEq] at e2
      exact absurd e2.1 (by decide)
    · rw [if_neg h1, if_neg h2, List.cons_append, List.cons.injEq] at e2
      exact eachL_cut l k hl hk hnn (r' := []) (by rw [List.append_nil]; exact e2.2)
/-- texts that may be taken -/
def OkT (l : List ByteArray) : Prop := l.length ≤ 2000 ∧ ∀ s ∈ l, s.size ≤ 60
theorem OkT.fit {l : List ByteArray} (h : OkT l) : Fit63 l := fun s hs => by have := h.2 s hs; omega
/-- the bytes are put of no texts that may be taken -/
def NoT (zs : List Int) : Prop := ∀ l, OkT l → putT l ≠ zs
theorem putT_inj {l k : List ByteArray} (hl : Fit63 l) (hk : Fit63 k) (hn : l.length ≤ 9223372036854775807) (hn' : k.length ≤ 9223372036854775807) (h : putT l = putT k) : l = k :=
  (putT_begin hl hk hn hn' (r := []) (by rw [List.append_nil]; exact h)).1
end Go.Proofs.YtbfihajgjbpmaaaGreat
/- Plain facts on how texts are read, and on places. -/
namespace Go.Proofs.YtbfihajgjbpmaaaGreat
set_option linter.unusedVariables false
set_option maxRecDepth 4000

abbrev Few60 (l : List ByteArray) : Prop := ∀ s ∈ l, s.size ≤ 60
theorem Few60.fit {l : List ByteArray} (h : Few60 l) : Fit63 l := fun s hs => by have := h s hs; omega
theorem str_size (q : List Int) : (strOfNums q).size = q.length := strOfNums_size q
/-- one more text is read -/
theorem each_step {p : List ByteArray} {q r r' : List Int} {k : Int} (hr : r = pv k ++ (q ++ r')) (hq : (q.length : Int) = k) (hb : ∀ z ∈ q, 0 ≤ z ∧ z ≤ 255) : eachL p ++ r = eachL (p ++ [strOfNums q]) ++ r' := by
  rw [eachL_snoc, str_size, hq, nums_str hb, hr]
  simp only [List.append_assoc]
/-- no texts begin so -/
theorem each_few {p : List ByteArray} {r zs : List Int} {N : Nat} (hz : zs = eachL p ++ r) (hp : p.length < N) (hf : Few60 p) (hbad : ∀ (k : Nat) (q r' : List Int), k ≤ 60 → q.length = k → r ≠ pv (k : Int) ++ (q ++ r')) :
    ∀ u, Few60 u → u.length = N → ∀ r', eachL u ++ r' ≠ zs := by
  intro u hu hn r' h
  have e : u = u.take p.length ++ u.drop p.length := (List.take_append_drop _ _).symm
  rw [hz, e, eachL_app, List.append_assoc] at h
  obtain ⟨e1, e2⟩ := eachL_cut _ _ (fun s hs => hu.fit s (List.mem_of_mem_take hs)) hf.fit (by rw [List.length_take]; omega) h
  cases hd : u.drop p.length with
  | nil =>
    have := congrArg List.length hd
    rw [List.length_drop] at this
    simp only [List.length_nil] at this; omega
  | cons s v =>
    have hs : s.size ≤ 60 := hu s (List.mem_of_mem_drop (by rw [hd]; exact List.mem_cons_self ..))
    rw [hd, eachL] at e2
    exact hbad s.size (nums s) (eachL v ++ r') hs (nums_len s) (by rw [← e2]; simp only [List.append_assoc])
theorem each_bad_none {r : List Int} (h : (varR r).2 = 0) : ∀ (k : Nat) (q r' : List Int), k ≤ 60 → q.length = k → r ≠ pv (k : Int) ++ (q ++ r') := by
  intro k q r' hk hq e
  have := varR_put (k : Int) (q ++ r') (by omega) (by omega)
  rw [← e] at this
  rw [this] at h
  have hp := pv_pos (k : Int)
  simp at h
  rw [h] at hp
  simp at hp
theorem each_bad_long {r rest : List Int} {y : Int} (hy : 0 ≤ y ∧ y ≤ 18446744073709551615) (hr : r = pv y ++ rest) (h : 60 < y) : ∀ (k : Nat) (q r' : List Int), k ≤ 60 → q.length = k → r ≠ pv (k : Int) ++ (q ++ r') := by
  intro k q r' hk hq e
  rw [hr] at e
  have := (pv_cut hy (by omega) e).1
  omega
theorem each_bad_few {r rest : List Int} {y : Int} (hy : 0 ≤ y ∧ y ≤ 18446744073709551615) (hr : r = pv y ++ rest) (h : (rest.length : Int) < y) : ∀ (k : Nat) (q r' : List Int), k ≤ 60 → q.length = k → r ≠ pv (k : Int) ++ (q ++ r') := by
  intro k q r' hk hq e
  rw [hr] at e
  obtain ⟨e1, e2⟩ := pv_cut hy (by omega) e
  have := congrArg List.length e2
  rw [List.length_append] at this
  omega
theorem each_one {l : List ByteArray} {r zs : List Int} {N : Nat} (hz : zs = eachL l ++ r) (hl : l.length = N) (hf : Few60 l) : ∀ u, Few60 u → u.length = N → ∀ r', eachL u ++ r' = zs → u = l ∧ r' = r := by
  intro u hu hn r' h
  rw [hz] at h
  exact eachL_cut u l hu.fit hf.fit (by omega) h
/-- the texts of places -/
def byPlaces (ws : List ByteArray) (ps : List Int) : List ByteArray := ps.map (fun p => ws.getD p.toNat ⟨#[]⟩)
theorem byPlaces_snoc (ws : List ByteArray) (ps : List Int) (p : Int) : byPlaces ws (ps ++ [p]) = byPlaces ws ps ++ [ws.getD p.toNat ⟨#[]⟩] := by simp [byPlaces]
theorem byPlaces_len (ws : List ByteArray) (ps : List Int) : (byPlaces ws ps).length = ps.length := by simp [byPlaces]
theorem byPlaces_back (l : List ByteArray) : byPlaces (words l) (placesL l) = l := by
  unfold byPlaces placesL
  rw [List.map_map]
  refine (List.map_congr_left (fun s hs => ?_)).trans (List.map_id _)
  have := place_get ((words_mem l s).2 hs)
  simp [List.getD, this]
theorem byPlaces_few {ws : List ByteArray} (h : Few60 ws) (ps : List Int) : Few60 (byPlaces ws ps) := by
  intro s hs
  obtain ⟨p, _, rfl⟩ := List.mem_map.1 hs
  rw [List.getD_eq_getElem?_getD]
  cases hg : ws[p.toNat]? with
  | none => exact (by decide : (⟨#[]⟩ : ByteArray).size ≤ 60)
  | some x => exact h x (List.mem_of_getElem? hg)
/-- what the way by places says -/
theorem dict_says {u : List ByteArray} {zs body : List Int} {y : Int} (hu : Few60 u) (hn : u.length ≤ 2000) (hy : 0 ≤ y ∧ y ≤ 18446744073709551615) (hz : zs = pv y ++ body) (h : dictL u = zs) : ((words u).length : Int) = y ∧ eachL (words u) ++ joinN (placesL u) = body := by
  rw [hz, dictL] at h
  have := words_len u
  exact pv_cut (by omega) hy h
theorem words_few {u : List ByteArray} (h : Few60 u) : Few60 (words u) := fun s hs => h s ((words_mem u s).1 hs)
/-- numbers that begin so -/
theorem places_few {ps : List Int} {r zs : List Int} {N : Nat} (hz : zs = joinN ps ++ r) (hp : ps.length < N) (hi : U64s ps) {W : Int} (hbad : ∀ (k : Int) (r' : List Int), 0 ≤ k → k < W → W ≤ 9223372036854775807 → r ≠ pv k ++ r') (hW : W ≤ 9223372036854775807) :
    ∀ qs : List Int, (∀ q ∈ qs, 0 ≤ q ∧ q < W) → qs.length = N → joinN qs ≠ zs := by
  intro qs hq hn h
  have hu : U64s qs := fun q h => by have := hq q h; omega
  have e : qs = qs.take ps.length ++ qs.drop ps.length := (List.take_append_drop _ _).symm
  rw [hz, e, joinN_app] at h
  obtain ⟨e1, e2⟩ := joinN_cut _ _ (fun s hs => hu s (List.mem_of_mem_take hs)) hi (by rw [List.length_take]; omega) h
  cases hd : qs.drop ps.length with
  | nil =>
    have := congrArg List.length hd
    rw [List.length_drop] at this
    simp only [List.length_nil] at this; omega
  | cons s v =>
    have hs := hq s (List.mem_of_mem_drop (by rw [hd]; exact List.mem_cons_self ..))
    rw [hd, joinN] at e2
    exact hbad s (joinN v) hs.1 hs.2 hW e2.symm
theorem places_lt (l : List ByteArray) : ∀ q ∈ placesL l, 0 ≤ q ∧ q < ((words l).length : Int) := by
  intro q hq
  obtain ⟨s, hs, rfl⟩ := List.mem_map.1 hq
  have := place_lt ((words_mem l s).2 hs)
  omega
/-- small numbers have a byte each -/
theorem joinN_small : ∀ {l : List Int}, (∀ x ∈ l, x < 128) → joinN l = l
  | [], _ => rfl
  | x :: l, h => by rw [joinN, pv_small (h x (List.mem_cons_self ..)), joinN_small (fun y hy => h y (List.mem_cons_of_mem _ hy))]; rfl
end Go.Proofs.YtbfihajgjbpmaaaGreat
/- A map from texts to numbers that the call makes: each of some unlike texts has its place. -/
namespace Go.Proofs.YtbfihajgjbpmaaaGreat
open Go.ChangeShapes Go.WideShapes Go.ChangeAt Go.RowKit Go.WideMaps
set_option linter.unusedVariables false
set_option maxRecDepth 4000

/-- T is a map's type, from texts (K) to numbers (E) of kind q -/
structure MT (T K E : TypeId) (q : IntKind) : Prop where
  map : Tryz.prog.underlying T = some (.map K E)
  key : Tryz.prog.underlying K = some .string
  el : Tryz.prog.underlying E = some (.int q)
  zero : ∀ w, (zeroValue E).run Tryz.prog w = .ok (.int q 0) w
  wf : ∀ n : Nat, n ≤ 1000000 → (Lit.int q (n : Int)).wf = true
abbrev kL (s : ByteArray) : Lit := .string s.data.toList
theorem kL_key (s : ByteArray) : WideAt.IsKeyLit (kL s) := trivial
theorem kL_inj {s t : ByteArray} (h : kL s = kL t) : s = t := by
  have h1 : s.data.toList = t.data.toList := by simpa [kL] using h
  exact ByteArray.ext (Array.ext' h1)
def mapF (q : IntKind) : DataW Unit → Nat → List ByteArray → DataW Unit
  | D, _, [] => D
  | D, i, s :: ws => mapF q (D.put (kL s) (.lit (.int q (i : Int)))) (i + 1) ws
/-- the map that has each text's place -/
def mapD (q : IntKind) (ws : List ByteArray) : DataW Unit := mapF q (.map []) 0 ws
theorem mapF_snoc (q : IntKind) : ∀ (ws : List ByteArray) (D : DataW Unit) (i : Nat) (s : ByteArray), mapF q D i (ws ++ [s]) = (mapF q D i ws).put (kL s) (.lit (.int q ((i + ws.length : Nat) : Int)))
  | [], D, i, s => rfl
  | x :: ws, D, i, s => by
    rw [List.cons_append, mapF, mapF, mapF_snoc q ws, List.length_cons, show i + 1 + ws.length = i + (ws.length + 1) by omega]
theorem mapD_snoc (q : IntKind) (ws : List ByteArray) (s : ByteArray) : mapD q (ws ++ [s]) = (mapD q ws).put (kL s) (.lit (.int q (ws.length : Int))) := by
  rw [mapD, mapF_snoc, Nat.zero_add]; rfl
theorem mapF_not (q : IntKind) : ∀ (ws : List ByteArray) (D : DataW Unit) (i : Nat) (s : ByteArray), s ∉ ws → Maps.has (mapF q D i ws) (kL s) = Maps.has D (kL s) ∧ ∀ z, (mapF q D i ws).atKey (kL s) z = D.atKey (kL s) z
  | [], D, i, s, _ => ⟨rfl, fun _ => rfl⟩
  | x :: ws, D, i, s, h => by
    have h1 : kL s ≠ kL x := fun e => h (by rw [kL_inj e]; exact List.mem_cons_self ..)
    obtain ⟨e1, e2⟩ := mapF_not q ws (D.put (kL x) (.lit (.int q (i : Int)))) (i + 1) s (fun e => h (List.mem_cons_of_mem _ e))
    rw [mapF, e1]
    exact ⟨Maps.has_put_other h1 _, fun z => by rw [e2, Maps.atKey_put_other h1]⟩
theorem mapF_there (q : IntKind) : ∀ (ws : List ByteArray) (D : DataW Unit) (i : Nat) (s : ByteArray), Maps.IsMap D → ws.Nodup → s ∈ ws → Maps.has (mapF q D i ws) (kL s) = true ∧ ∀ z, (mapF q D i ws).atKey (kL s) z = .lit (.int q ((i + placeB ws s : Nat) : Int))
  | x :: ws, D, i, s, hD, hn, h => by
    rw [List.nodup_cons] at hn
    rw [mapF, placeB]
    by_cases hx : x = s
    · subst hx
      obtain ⟨e1, e2⟩ := mapF_not q ws (D.put (kL x) (.lit (.int q (i : Int)))) (i + 1) x hn.1
      rw [e1, if_pos rfl]
      exact ⟨Maps.has_put_same hD (kL_key x) _, fun z => by rw [e2, Maps.atKey_put_same hD (kL_key x)]; rfl⟩
    · obtain ⟨e1, e2⟩ := mapF_there q ws (D.put (kL x) (.lit (.int q (i : Int)))) (i + 1) s (hD.put _ _) hn.2 ((List.mem_cons.1 h).resolve_left (fun e => hx e.symm))
      rw [e1, if_neg hx]
      exact ⟨rfl, fun z => by rw [e2, show i + 1 + placeB ws s = i + (placeB ws s + 1) by omega]⟩
theorem mapD_has (q : IntKind) {ws : List ByteArray} (hn : ws.Nodup) (s : ByteArray) : Maps.has (mapD q ws) (kL s) = thereB ws s := by
  by_cases h : s ∈ ws
  · rw [there_iff.2 h]; exact (mapF_there q ws _ 0 s Maps.isMap_empty hn h).1
  · rw [there_not.2 h]; exact (mapF_not q ws _ 0 s h).1
/-- what a look-up tells -/
def lookV (ws : List ByteArray) (s : ByteArray) : Int := if thereB ws s = true then (placeB ws s : Int) else 0
theorem mapD_at (q : IntKind) {ws : List ByteArray} (hn : ws.Nodup) (s : ByteArray) : (mapD q ws).atKey (kL s) (.lit (.int q 0)) = .lit (.int q (lookV ws s)) := by
  unfold lookV
  by_cases h : s ∈ ws
  · rw [if_pos (there_iff.2 h)]
    have := (mapF_there q ws _ 0 s Maps.isMap_empty hn h).2 (.lit (.int q 0))
    rw [Nat.zero_add] at this
    exact this
  · rw [if_neg (by rw [there_iff]; exact h)]; exact (mapF_not q ws _ 0 s h).2 _
theorem mapD_size (q : IntKind) : ∀ (n : Nat) (us : List ByteArray), us.length = n → us.Nodup → Maps.Tidy (mapD q us) ∧ Maps.size (mapD q us) = us.length
  | 0, us, h, _ => by
    have : us = [] := List.eq_nil_of_length_eq_zero h
    subst this
    exact ⟨Maps.tidy_empty, rfl⟩
  | n + 1, us, h, hn => by
    have hne : us ≠ [] := fun e => by rw [e] at h; simp at h
    have e : us = us.dropLast ++ [us.getLast hne] := (List.dropLast_concat_getLast hne).symm
    generalize us.getLast hne = s at e
    generalize us.dropLast = vs at e
    subst e
    rw [List.nodup_append] at hn
    have hnot : s ∉ vs := fun hm => hn.2.2 s hm s (by simp) rfl
    obtain ⟨t1, t2⟩ := mapD_size q n vs (by simpa using h) hn.1
    rw [mapD_snoc]
    refine ⟨t1.put (kL_key s) _, ?_⟩
    rw [Maps.size_put t1, mapD_has q hn.1, there_not.2 hnot, t2]
    simp
/-- block B is a map that has the places of these unlike texts -/
def MapWs (K E : TypeId) (q : IntKind) (w : World) (B : Nat) (ws : List ByteArray) : Prop :=
  ws.Nodup ∧ w.ownsMap Tryz.prog K (plainElem (H := Unit) Tryz.prog E) B ws.length (mapD q ws)
section
variable {T K E : TypeId} {q : IntKind} {w : World} {B : Nat} {ws : List ByteArray}
theorem MapWs.made (K E : TypeId) (q : IntKind) (w : World) : MapWs K E q (w.alloc (.map #[] 0)) w.heap.size [] := ⟨List.nodup_nil, World.ownsMap_made w Tryz.prog K _⟩
theorem MapWs.lt (h : MapWs K E q w B ws) : B < w.heap.size := World.ownsMap.lt h.2
theorem MapWs.alloc (h : MapWs K E q w B ws) (o : Obj) : MapWs K E q (w.alloc o) B ws := ⟨h.1, World.ownsMap.alloc h.2 o⟩
theorem MapWs.drew (h : MapWs K E q w B ws) : MapWs K E q w.drew B ws := h
/-- it hangs on its block alone -/
theorem MapWs.same {w' : World} (h : MapWs K E q w B ws) (he : w'.heap[B]? = w.heap[B]?) : MapWs K E q w' B ws := by
  obtain ⟨h1, es, clock, h2, h3⟩ := h
  exact ⟨h1, es, clock, he.trans h2, h3⟩
theorem MapWs.below {w' : World} (h : MapWs K E q w B ws) (hb : Below w.heap.size w w') : MapWs K E q w' B ws := h.same (hb.block B h.lt)
theorem MapWs.set {i b : Nat} (h : MapWs K E q w B ws) (hb : B ≠ b) (u : Value) : MapWs K E q (w.setCell ⟨b, i, none⟩ u) B ws := h.same (Below.heap_setCell _ _ _ _ hb)
/-- 'p, ok := m[s]' -/
theorem MapWs.look_ok (h : MapWs K E q w B ws) (ht : MT T K E q) {s : ByteArray} (hs : s.size ≤ maxLen) :
    (Instr.lookup T (.map (some B)) (.string s) true).run Tryz.prog w = .ok (.tuple #[.int q (lookV ws s), .bool (thereB ws s)]) w := by
  obtain ⟨v, ps, hrun, hv⟩ := World.ownsMap.look_ok h.2 (Maps.string_keyed ht.key) ht.map (ht.zero w) (plainElem_int ht.el (by have := ht.wf 0 (by omega); exact this)) (keyOf_string_mk ht.key hs)
  obtain ⟨c, rfl, hc, -⟩ := plainElem_int_inv ht.el hv
  have e := congrArg Prod.fst hc
  simp only [] at e
  rw [mapD_at q h.1 s] at e
  simp only [DataW.lit.injEq, Lit.int.injEq, true_and] at e
  rw [hrun, mapD_has q h.1 s, e]
theorem nodup_snoc {s : ByteArray} (hn : ws.Nodup) (h : s ∉ ws) : (ws ++ [s]).Nodup := by
  have := addW_nodup (s := s) hn
  unfold addW at this
  rwa [if_neg (by rw [there_iff]; exact h)] at this
/-- 'm[s] = len', a new text -/
theorem MapWs.store (h : MapWs K E q w B ws) (ht : MT T K E q) {s : ByteArray} (hs : s.size ≤ maxLen) (hnew : s ∉ ws) (hl : ws.length ≤ 1000000) {v : Int} (hv : v = (ws.length : Int)) :
    ∃ w', (Instr.mapUpdate T (.map (some B)) (.string s) (.int q v)).run Tryz.prog w = .ok () w' ∧ MapWs K E q w' B (ws ++ [s]) ∧ w.grownBy w' (some B) := by
  subst hv
  obtain ⟨w', hrun, ho, hg⟩ := World.ownsMap.update h.2 (Maps.string_keyed ht.key) ht.map (by unfold maxLen; omega) (keyOf_string_mk ht.key hs) (plainElem_int ht.el (ht.wf ws.length hl))
  refine ⟨w', hrun, ⟨nodup_snoc h.1 hnew, ?_⟩, hg⟩
  rw [mapD_snoc, List.length_append, List.length_singleton]
  exact ho
/-- 'len(m)' -/
theorem MapWs.len (h : MapWs K E q w B ws) (ht : MT T K E q) (ty : TypeId) : (Builtin.len_ #[T] ty #[.map (some B)]).run Tryz.prog w = .ok (.int .i64 (ws.length : Int)) w := by
  rw [World.ownsMap.len h.2 ht.map ty]
  rw [(mapD_size q ws.length ws rfl h.1).2]
end
/-- what a map's store leaves alone -/
theorem grown_block {w w' : World} {B b : Nat} (h : w.grownBy w' (some B)) (hb : b < w.heap.size) (hne : b ≠ B) : w'.heap[b]? = w.heap[b]? := h.block b hb (fun e => hne (Option.some.inj e))
theorem grown_below {w w' : World} {B base : Nat} (h : w.grownBy w' (some B)) (hb : base ≤ B) (hs : base ≤ w.heap.size) : Below base w w' := (Below.refl _ _).grown h hs (fun k hk => by cases hk; exact hb)
theorem OW.same {w w' : World} {base : Nat} {v : Value} {bs : List Int} (h : OW w base v bs) (he : ∀ g, v.ownBlock = some g → g < w.heap.size → w'.heap[g]? = w.heap[g]?) : OW w' base v bs := by
  rcases h with h | ⟨g, cap, cur, T, rfl, h2, h3, h4⟩
  · exact .inl h
  · exact .inr ⟨g, cap, cur, T, rfl, h2, (he g rfl (heap_lt h3)).trans h3, h4⟩
theorem OS.same {k : Nat} {w w' : World} {base : Nat} {v : Value} {n : Nat} {cs : List Value} (h : OS k w base v n cs) (he : ∀ g, v.ownBlock = some g → g < w.heap.size → w'.heap[g]? = w.heap[g]?) : OS k w' base v n cs := by
  obtain ⟨h1, h2, h3⟩ := h
  refine ⟨h1, h2, ?_⟩
  rcases h3 with h3 | ⟨g, cap, cur, T, rfl, hg, hh, hr⟩
  · exact .inl h3
  · exact .inr ⟨g, cap, cur, T, rfl, hg, (he g rfl (heap_lt hh)).trans hh, hr⟩
end Go.Proofs.YtbfihajgjbpmaaaGreat
/- Contracts of package texts: Each. -/
namespace Go.Proofs.YtbfihajgjbpmaaaGreat
open Go.ChangeShapes Go.WideShapes Go.ChangeAt Go.RowKit
set_option linter.unusedVariables false
set_option maxRecDepth 4000

/-- texts that are not long -/
abbrev Sm (l : List ByteArray) : Prop := ∀ s ∈ l, s.size ≤ 200
theorem Sm.fit {l : List ByteArray} (h : Sm l) : Fit63 l := fun s hs => by have := h s hs; omega
theorem Sm.at {l : List ByteArray} (h : Sm l) (j : Nat) : (l.getD j ⟨#[]⟩).size ≤ 200 := by
  rw [List.getD_eq_getElem?_getD]
  cases hg : l[j]? with
  | none => exact (by decide : (⟨#[]⟩ : ByteArray).size ≤ 200)
  | some x => exact h x (List.mem_of_getElem? hg)
theorem Few60.sm {l : List ByteArray} (h : Few60 l) : Sm l := fun s hs => by have := h s hs; omega
theorem words_sm {l : List ByteArray} (h : Sm l) : Sm (words l) := fun s hs => h s ((words_mem l s).1 hs)
theorem eachL_len210 : ∀ {l : List ByteArray}, Sm l → (eachL l).length ≤ 210 * l.length
  | [], _ => Nat.le_refl _
  | s :: l, h => by
    have h1 := eachL_len210 (l := l) (fun x hx => h x (List.mem_cons_of_mem _ hx))
    have h2 := h s (List.mem_cons_self ..)
    have h3 := pv_len10 (x := (s.size : Int)) (by omega)
    rw [eachL, List.length_append, List.length_append, nums_len, List.length_cons]; omega
set_option maxHeartbeats 1000000 in
theorem each_any (A : Option Addr) (N C : Nat) (l : List ByteArray) (w : World) (hv : TV w A N l) (hr : Sm l) (hN : N ≤ 2000) :
    Calls Tryz.prog 133 #[.slice A N C] w fun e w' => ∃ v, e = .returned v ∧ OW w' w.heap.size v (eachL l) ∧ Below w.heap.size w w' := by
  have hl := Lib.hid (TV.len hv)
  go_enter Tryz.func133, Tryz.ntmps133
  go_wp2_with fail
  go_loopw [3, 8] (fun v i wr => ∃ (j : Nat) (bs : List Int), j ≤ N ∧ i = .int .i64 (j : Int) ∧ Hid (bs = eachL (l.take j)) ∧ bs.length ≤ 210 * j ∧ OW wr w.heap.size v bs ∧ Below w.heap.size w wr) (fun _ i _ => N - (intOf i).toNat)
  case atStart => exact ⟨0, [], by omega, rfl, Lib.hid rfl, by simp, .inl ⟨rfl, rfl⟩, Below.refl _ _⟩
  case round =>
    obtain ⟨j, bs, hj, rfl, HB, hbl, ho, hbel⟩ := hrel
    by_cases hlt : j < N
    · obtain ⟨b, off, rfl, hcl⟩ := TV.at hv j hlt
      have hcl' := keepc hcl hbel
      have hx := hr.at j
      have HS := Lib.hid (take_snocT l j (by rw [hl.out]; exact hlt))
      generalize l.getD j ⟨#[]⟩ = x at hcl' hx HS
      clear hcl
      obtain ⟨u, hu⟩ : ∃ u : Nat, x.size = u := ⟨_, rfl⟩
      have HU := Lib.hid hu
      rw [hu] at hx
      have hwu : IntKind.u64.wrap (u : Int) = (u : Int) := u64_same (by omega) (by omega)
      have hlp := pv_len10 (x := (u : Int)) (by omega)
      have hsz := hbel.size
      have ho1 := ho.alloc (pvObj (u : Int))
      have hb1 := hbel.alloc hbel.size (pvObj (u : Int))
      have hs1 : w.heap.size ≤ (World.alloc _ (pvObj (u : Int))).heap.size := hb1.size
      go_wp2_with fail
      refine (putvar_any (u : Int) _ (by omega) (by omega)).mono ?_
      clear hu
      rintro e w1 ⟨rfl, rfl⟩
      go_wp2_with (at_builtin; first | (refine append_ow rfl (.tmp 12) (.tmp 16) rfl w.heap.size _ bs rfl ho1 _ _ 10 _ rfl (BV.pv _ (by omega)) (by omega) hs1 ?_; intro v2 w2 ho2 hb2) | (refine append_str rfl (.tmp 18) (.tmp 19) rfl w.heap.size _ _ rfl ho2 x rfl (by rw [List.length_append, HU.out]; omega) (Nat.le_trans hs1 hb2.size) ?_; intro v3 w3 ho3 hb3 _ _))
      go_roundw
      case rel => exact ⟨j + 1, _, by omega, by go_num, Lib.hid (by rw [HS.out, eachL_snoc, ← HB.out, HU.out, List.append_assoc]), by rw [List.length_append, List.length_append, nums_len, HU.out]; omega, ho3, (hb1.trans hb2).trans hb3⟩
      case measure => simp [intOf]; omega
    · obtain rfl : j = N := by omega
      have HB' : Hid (bs = eachL l) := Lib.hid (by rw [HB.out, ← hl.out, List.take_length])
      go_wp2_with fail
      go_ret
      exact ⟨_, rfl, by rw [← HB'.out]; exact ho, hbel⟩
end Go.Proofs.YtbfihajgjbpmaaaGreat
/- Contracts of package texts: the closure within Dict. -/
namespace Go.Proofs.YtbfihajgjbpmaaaGreat
open Go.ChangeShapes Go.WideShapes Go.ChangeAt Go.RowKit
set_option linter.unusedVariables false
set_option maxRecDepth 4000

theorem mtSI : MT 163 9 3 .i64 where
  map := Tryz.underlying163
  key := Tryz.underlying9
  el := Tryz.underlying3
  zero := fun w => by go_simp
  wf := fun n hn => by
    have h1 : IntKind.i64.min = -9223372036854775808 := by decide
    have h2 : IntKind.i64.max = 9223372036854775807 := by decide
    simp [Lit.wf]; omega
theorem OS.ownLow {k : Nat} {w : World} {base : Nat} {v : Value} {n : Nat} {cs : List Value} (h : OS k w base v n cs) {b : Nat} (hb : v.ownBlock = some b) : base ≤ b ∧ b < w.heap.size := by
  rcases h.2.2 with ⟨rfl, _⟩ | ⟨g, cap, cur, T, rfl, hg, hh, _⟩
  · cases hb
  · cases hb; exact ⟨hg, heap_lt hh⟩
theorem OW.ownLow {w : World} {base : Nat} {v : Value} {bs : List Int} (h : OW w base v bs) {b : Nat} (hb : v.ownBlock = some b) : base ≤ b ∧ b < w.heap.size := OS.ownLow h.os hb
/-- what the closure and its maker share: three blocks, and the unlike texts -/
def DS (h0 : Nat) (w : World) (v : Value) (ws : List ByteArray) : Prop :=
  Bk w h0 #[v] 101 ∧ Bk w (h0 + 2) #[.map (some (h0 + 1))] 163 ∧ MapWs 9 3 .i64 w (h0 + 1) ws ∧ OS 1 w (h0 + 3) v ws.length (tcells ws) ∧ h0 + 3 ≤ w.heap.size
/-- what the closure tells -/
def PlaceE (h0 : Nat) (w w' : World) (v : Value) (ws : List ByteArray) (s : ByteArray) (e : Ending) : Prop :=
  ∃ v', e = .returned (.int .i64 (placeB ws s : Int)) ∧ DS h0 w' v' (addW ws s) ∧ Below h0 w w' ∧ (v'.ownBlock = v.ownBlock ∨ ∃ g, v'.ownBlock = some g ∧ w.heap.size ≤ g) ∧ (∀ b, h0 + 3 ≤ b → b < w.heap.size → v.ownBlock ≠ some b → w'.heap[b]? = w.heap[b]?)
set_option maxHeartbeats 1000000 in
theorem place_any (h0 : Nat) (v : Value) (ws : List ByteArray) (s : ByteArray) (w : World) (hd : DS h0 w v ws) (hs : s.size ≤ 200) (hn : ws.length ≤ 2000) :
    Calls Tryz.prog 146 #[.string s, .pointer (some ⟨h0 + 2, 0, none⟩), .pointer (some ⟨h0, 0, none⟩)] w fun e w' => PlaceE h0 w w' v ws s e := by
  have HD := Lib.hid hd
  obtain ⟨b3, b4, hm, ho, hsz⟩ := hd
  have hmx : s.size ≤ maxLen := by unfold maxLen; omega
  have hlook := hm.look_ok mtSI hmx
  have c4 := b4.cell 0 (v := .map (some (h0 + 1))) rfl
  by_cases hs1 : s ∈ ws
  · have ht := there_iff.2 hs1
    have hp : Hid (lookV ws s = (placeB ws s : Int)) := Lib.hid (by rw [lookV, if_pos ht])
    have HA : Hid (addW ws s = ws) := Lib.hid (by rw [addW, if_pos ht])
    rw [ht] at hlook
    clear ht b3 b4 hm ho hs1
    go_enter Tryz.func146, Tryz.ntmps146
    go_wp2_with fail
    go_ret
    exact ⟨v, ret_int hp.out, by rw [HA.out]; exact HD.out, Below.refl _ _, .inl rfl, fun _ _ _ _ => rfl⟩
  · have ht := there_not.2 hs1
    rw [ht] at hlook
    have HP : Hid (placeB ws s = ws.length) := Lib.hid (place_not hs1)
    have HA : Hid (addW ws s = ws ++ [s]) := Lib.hid (by rw [addW, if_neg (by rw [ht]; decide)])
    obtain ⟨a0, k0, rfl⟩ := ho.shape
    have c3 := b3.cell 0 (v := .slice a0 ws.length k0) rfl
    obtain ⟨w1, hrun, hm1, hg⟩ := hm.store mtSI hmx hs1 (by omega) rfl
    have hsz1 := hg.size
    have b31 : Bk w1 h0 #[.slice a0 ws.length k0] 101 := (grown_block hg (by omega) (by omega)).trans b3
    have b41 : Bk w1 (h0 + 2) #[.map (some (h0 + 1))] 163 := (grown_block hg (by omega) (by omega)).trans b4
    have hbk := fun b hb => ho.ownLow (b := b) hb
    have ho1 : OS 1 w1 (h0 + 3) (.slice a0 ws.length k0) ws.length (tcells ws) := ho.same (fun g hg1 hlt => grown_block hg hlt (fun e => by have := hbk g hg1; omega))
    have hb1 : Below h0 w w1 := grown_below hg (by omega) (by omega)
    have HG := Lib.hid (fun b (hb : b < w.heap.size) (hne : b ≠ h0 + 1) => grown_block hg hb hne)
    have c31 := b31.cell 0 (v := .slice a0 ws.length k0) rfl
    have hone : SV 1 (w1.alloc (.cells #[.string s] 9)) (some ⟨w1.heap.size, 0, none⟩) 1 (tcells [s]) := SV.lit (k := 1) w1 (tcells [s]) 1 9 rfl (tcells_one _)
    have b32 := b31.alloc (.cells #[.string s] 9)
    have b42 := b41.alloc (.cells #[.string s] 9)
    have ho2 := ho1.alloc (.cells #[.string s] 9)
    have hm2 := hm1.alloc (.cells #[.string s] 9)
    have hb2 := hb1.alloc (by omega) (.cells #[.string s] 9)
    have hs2 : w1.heap.size < (w1.alloc (.cells #[.string s] 9)).heap.size := by simp
    clear ht hs1 hg b31 b41 hm1 ho1 hb1 b3 b4 ho hm
    go_enter Tryz.func146, Tryz.ntmps146
    go_wp2_with (at_builtin; refine append_os2 el_texts rfl (.tmp 20) (.tmp 22) rfl (h0 + 3) _ ws.length (tcells ws) rfl ho2 _ 1 1 _ rfl hone (by omega) (by omega) (by omega) ?_; intro v3 w3 ho3 hb3 ob3 hk3; have HK : Hid (∀ b, b < (w1.alloc (.cells #[.string s] 9)).heap.size → (Value.slice a0 ws.length k0).ownBlock ≠ some b → w3.heap[b]? = (w1.alloc (.cells #[.string s] 9)).heap[b]?) := Lib.hid hk3; have HO : Hid (v3.ownBlock = (Value.slice a0 ws.length k0).ownBlock ∨ v3.ownBlock = some (w1.alloc (.cells #[.string s] 9)).heap.size) := Lib.hid ob3; clear hk3 ob3; obtain ⟨a3, k3, rfl⟩ := ho3.shape; have b33 : Bk w3 h0 _ _ := b32.low hb3 (by omega); have c33 := b33.cell 0 (v := .slice a0 ws.length k0) rfl; have f33 := b33.free 0)
    go_ret
    have b43 := b42.low hb3 (by omega)
    have hm3 : MapWs 9 3 .i64 w3 (h0 + 1) (ws ++ [s]) := hm2.same (hb3.block _ (by omega))
    refine ⟨.slice a3 (ws.length + 1) k3, ret_int (by rw [HP.out]), ?_, (hb2.trans (hb3.mono (by omega))).setCell (by simp) _, ?_, ?_⟩
    · rw [HA.out]
      refine ⟨b33.set 0 _, b43.other (by omega) _, hm3.set (by omega) _, ?_, by rw [size_set]; have := hb3.size; omega⟩
      rw [List.length_append, List.length_singleton, tcells_app]
      exact ho3.set (by omega) _
    · rcases HO.out with h | h
      · exact .inl h
      · exact .inr ⟨_, h, by omega⟩
    · intro b hb1 hb2 hne
      rw [Below.heap_setCell _ _ _ _ (show b ≠ h0 by omega), HK.out b (by omega) hne, heap_alloc_old _ _ (by omega), HG.out b hb2 (by omega)]
end Go.Proofs.YtbfihajgjbpmaaaGreat
/- Contracts of package texts: Dict, Put. -/
namespace Go.Proofs.YtbfihajgjbpmaaaGreat
open Go.ChangeShapes Go.WideShapes Go.ChangeAt Go.RowKit
set_option linter.unusedVariables false
set_option maxRecDepth 4000

theorem DS.below {h0 : Nat} {w w' : World} {v : Value} {ws : List ByteArray} (h : DS h0 w v ws) (hb : Below w.heap.size w w') : DS h0 w' v ws := by
  obtain ⟨h1, h2, h3, h4, h5⟩ := h
  have := hb.size
  exact ⟨h1.below hb, h2.below hb, h3.below hb, h4.below hb, by omega⟩
/-- a step that leaves the three blocks, and that of the unlike texts -/
theorem DS.same {h0 : Nat} {w w' : World} {v : Value} {ws : List ByteArray} (h : DS h0 w v ws) (hs : w.heap.size ≤ w'.heap.size) (he : ∀ b, b < w.heap.size → b < h0 + 3 ∨ v.ownBlock = some b → w'.heap[b]? = w.heap[b]?) : DS h0 w' v ws := by
  obtain ⟨h1, h2, h3, h4, h5⟩ := h
  exact ⟨(he _ (by omega) (.inl (by omega))).trans h1, (he _ (by omega) (.inl (by omega))).trans h2, h3.same (he _ (by omega) (.inl (by omega))), h4.same (fun g hg hlt => he g hlt (.inr hg)), by omega⟩
theorem addW_len (ws : List ByteArray) (s : ByteArray) : (addW ws s).length ≤ ws.length + 1 := by unfold addW; split <;> simp
theorem BV.otherN {w w' : World} {a : Option Addr} {n : Nat} {zs : List Int} (h : BV w a n zs) (hb : ∀ x, a = some x → n ≠ 0 → x.block < w.heap.size → w'.heap[x.block]? = w.heap[x.block]?) : BV w' a n zs := by
  by_cases h0 : n = 0
  · exact ⟨h.1, h.2.1, .inl h0⟩
  · exact h.other (fun x hx hlt => hb x hx h0 hlt)
theorem joinN_len10 : ∀ {l : List Int}, U64s l → (joinN l).length ≤ 10 * l.length
  | [], _ => Nat.le_refl _
  | x :: l, h => by
    have h1 := joinN_len10 (l := l) (fun y hy => h y (List.mem_cons_of_mem _ hy))
    have h2 := pv_len10 (x := x) (by have := (h x (List.mem_cons_self ..)).2; omega)
    rw [joinN, List.length_append, List.length_cons]; omega
theorem dictL_len {l : List ByteArray} (hr : Sm l) (hn : l.length ≤ 2000) : (dictL l).length ≤ 500000 := by
  have h1 := words_len l
  have h2 := eachL_len210 (words_sm hr)
  have h3 := joinN_len10 (places_u64 (l := l) (by omega))
  rw [places_len] at h3
  have h4 := pv_len10 (x := ((words l).length : Int)) (by omega)
  rw [dictL, List.length_append, List.length_append]; omega
set_option maxHeartbeats 2000000 in
theorem dict_any (A : Option Addr) (N C : Nat) (l : List ByteArray) (w : World) (hv : TV w A N l) (hr : Sm l) (hN : N ≤ 2000) :
    Calls Tryz.prog 134 #[.slice A N C] w fun e w' => ∃ v, e = .returned v ∧ OW w' w.heap.size v (dictL l) ∧ Below w.heap.size w w' := by
  have hl := Lib.hid (TV.len hv)
  have hmk : ∀ wx, (Instr.makeMap 163 none).run Tryz.prog wx = .ok (.map (some wx.heap.size)) (wx.alloc (.map #[] 0)) := fun wx => run_makeMap ..
  have d0 : DS w.heap.size (((w.alloc (.cells #[.slice none 0 0] 101)).alloc (.map #[] 0)).alloc (.cells #[.map (some (w.heap.size + 1))] 163)) (.slice none 0 0) [] := by
    refine ⟨((Bk.new w _ _).alloc _).alloc _, ?_, ?_, OS.nil _ _, by simp⟩
    · have := Bk.new ((w.alloc (.cells #[.slice none 0 0] 101)).alloc (.map #[] 0)) #[.map (some (w.heap.size + 1))] 163
      simpa using this
    · have := (MapWs.made 9 3 .i64 (w.alloc (.cells #[.slice none 0 0] 101))).alloc (.cells #[.map (some (w.heap.size + 1))] 163)
      simpa using this
  have hb0 : Below w.heap.size w (((w.alloc (.cells #[.slice none 0 0] 101)).alloc (.map #[] 0)).alloc (.cells #[.map (some (w.heap.size + 1))] 163)) := Joins.below_alloc3 _ _ _ _
  go_enter Tryz.func134, Tryz.ntmps134
  go_wp2_with fail
  clear hmk
  generalize (((w.alloc (.cells #[.slice none 0 0] 101)).alloc (.map #[] 0)).alloc (.cells #[.map (some (w.heap.size + 1))] 163)) = w0 at *
  go_loopw [6, 14] (fun vt i wr => ∃ (j : Nat) (bs : List Int) (v : Value) (ws : List ByteArray), j ≤ N ∧ i = .int .i64 (j : Int) ∧ Hid (ws = words (l.take j)) ∧ Hid (bs = joinN (placesL (l.take j))) ∧ bs.length ≤ 10 * j ∧ ws.length ≤ j ∧ OW wr (w.heap.size + 3) vt bs ∧ DS w.heap.size wr v ws ∧ (∀ g, v.ownBlock = some g → vt.ownBlock ≠ some g) ∧ Below w.heap.size w wr) (fun _ i _ => N - (intOf i).toNat)
  case atStart => exact ⟨0, [], _, [], by omega, rfl, Lib.hid rfl, Lib.hid rfl, by simp, by simp, .inl ⟨rfl, rfl⟩, d0, (fun g h => by cases h), hb0⟩
  case round =>
    clear d0 hb0
    obtain ⟨j, bs, v, ws, hj, rfl, HW, HB, hbl, hwl, ho, hd, hdis, hbel⟩ := hrel
    have HD := Lib.hid hdis
    clear hdis
    by_cases hlt : j < N
    · obtain ⟨b, off, rfl, hcl⟩ := TV.at hv j hlt
      have hcl' := keepc hcl hbel
      have hx := hr.at j
      have HS := Lib.hid (take_snocT l j (by rw [hl.out]; exact hlt))
      generalize l.getD j ⟨#[]⟩ = x at hcl' hx HS
      clear hcl
      have hpl := place_le ws x
      go_wp2_with fail
      refine (place_any w.heap.size v ws x _ hd hx (by omega)).mono ?_
      rintro e w1 ⟨v1, rfl, hd1, hb1, ob1, hk1⟩
      have ho1 : OW w1 (w.heap.size + 3) u6 bs := ho.same (fun g hg hlt => hk1 g (ho.ownLow hg).1 hlt (fun e => HD.out g e hg))
      have HD1 : Hid (∀ g, v1.ownBlock = some g → u6.ownBlock ≠ some g) := Lib.hid (fun g h1 h2 => by
        rcases ob1 with h | ⟨k, hk, hge⟩
        · exact HD.out g (by rw [← h]; exact h1) h2
        · have := (ho.ownLow h2).2
          rw [hk] at h1; cases h1; omega)
      clear hk1 ob1 ho hd
      obtain ⟨u, hu⟩ : ∃ u : Nat, placeB ws x = u := ⟨_, rfl⟩
      have HU := Lib.hid hu
      rw [hu] at hpl
      rw [hu]
      clear hu
      have hwu : IntKind.u64.wrap (u : Int) = (u : Int) := u64_same (by omega) (by omega)
      have hlp := pv_len10 (x := (u : Int)) (by omega)
      replace hbel := hbel.trans hb1
      clear hb1
      have hsz := hbel.size
      have hq1 := hd1.2.2.2.2
      have ho2 := ho1.alloc (pvObj (u : Int))
      have hd2 := hd1.below (Joins.below_alloc1 w1 (pvObj (u : Int)))
      have hb2 := hbel.alloc hbel.size (pvObj (u : Int))
      have hs2 : w1.heap.size < (World.alloc w1 (pvObj (u : Int))).heap.size := by simp
      have HLT : Hid (∀ g, v1.ownBlock = some g → g < w1.heap.size) := Lib.hid (fun g hg => (hd1.2.2.2.1.ownLow hg).2)
      have HAL : Hid ((addW ws x).length ≤ j + 1) := Lib.hid (Nat.le_trans (addW_len ws x) (by omega))
      clear ho1 hd1
      go_wp2_with fail
      refine (putvar_any (u : Int) _ (by omega) (by omega)).mono ?_
      rintro e w2 ⟨rfl, rfl⟩
      go_wp2_with (at_builtin; refine append_ow2 rfl (.tmp 18) (.tmp 23) rfl (w.heap.size + 3) _ bs rfl ho2 _ _ 10 _ rfl (BV.pv _ (by omega)) (by omega) (by omega) ?_; intro v3 w3 ho3 hb3 ob3 hk3; have HK : Hid (∀ b, b < (World.alloc w1 (pvObj (u : Int))).heap.size → u6.ownBlock ≠ some b → w3.heap[b]? = (World.alloc w1 (pvObj (u : Int))).heap[b]?) := Lib.hid hk3; have HO : Hid (v3.ownBlock = u6.ownBlock ∨ v3.ownBlock = some (World.alloc w1 (pvObj (u : Int))).heap.size) := Lib.hid ob3; clear hk3 ob3)
      go_roundw
      case rel =>
        refine ⟨j + 1, _, v1, addW ws x, by omega, by go_num, Lib.hid (by rw [HS.out, words_snoc, HW.out]), Lib.hid (by rw [HS.out, places_snoc, joinN_snoc, ← HB.out, ← HW.out, HU.out]), by rw [List.length_append]; omega, HAL.out, ho3, ?_, ?_, hb2.trans (hb3.mono (by omega))⟩
        · refine hd2.same hb3.size (fun b hb h => ?_)
          rcases h with h | h
          · exact hb3.block b h
          · exact HK.out b hb (HD1.out b h)
        · intro g hg he
          rcases HO.out with h | h
          · exact HD1.out g hg (by rw [← h]; exact he)
          · rw [h] at he
            have := HLT.out g hg
            cases he
            omega
      case measure => simp [intOf]; omega
    · obtain rfl : j = N := by omega
      have HB' : Hid (bs = joinN (placesL l)) := Lib.hid (by rw [HB.out, ← hl.out, List.take_length])
      have HW' : Hid (ws = words l) := Lib.hid (by rw [HW.out, ← hl.out, List.take_length])
      have hsm : Sm ws := by rw [HW'.out]; exact words_sm hr
      have hel := eachL_len210 hsm
      have hjb : ∀ z ∈ bs, 0 ≤ z ∧ z ≤ 255 := by rw [HB'.out]; exact joinN_bytes (places_u64 (by rw [hl.out]; omega))
      obtain ⟨d1, -, -, d4, d5⟩ := id hd
      have htb : ∀ g, u6.ownBlock = some g → g < wr.heap.size := fun g hg => (ho.ownLow hg).2
      obtain ⟨at', ct, rfl, hct, -, bt, lt⟩ := ho.bvn hjb _ rfl
      have HTB : Hid (∀ x, at' = some x → x.block < wr.heap.size ∨ bs.length = 0) := Lib.hid (fun x hx => by
        rcases bt.2.2 with h | ⟨b, off, h, hc⟩
        · exact .inr h
        · by_cases h0 : bs.length = 0
          · exact .inr h0
          · rw [h] at hx; cases hx
            exact .inl (cell_lt (hc 0 (by omega))))
      obtain ⟨au, cu, rfl, hcu, -, tu, -, -⟩ := d4.sv
      obtain ⟨n, hn⟩ : ∃ n, ws.length = n := ⟨_, rfl⟩
      rw [hn] at d1 d4 tu hwl hel
      have HN := Lib.hid hn
      have c0 := d1.cell 0 (v := .slice au n cu) rfl
      have hwu : IntKind.u64.wrap (n : Int) = (n : Int) := u64_same (by omega) (by omega)
      have hlp := pv_len10 (x := (n : Int)) (by omega)
      have ho0 := OW.pv (n : Int) wr w.heap.size hbel.size (by omega) wr.heap.size rfl
      have hb0 := hbel.alloc hbel.size (pvObj (n : Int))
      have bt0 := bt.alloc (pvObj (n : Int))
      have tu0 : TV (wr.alloc (pvObj (n : Int))) au n ws := tu.alloc (pvObj (n : Int))
      have c1 := keepo c0 (pvObj (n : Int))
      have hs0 : wr.heap.size < (wr.alloc (pvObj (n : Int))).heap.size := by simp
      have hsz := hbel.size
      clear hd d1 d4 ho bt tu htb hn
      go_wp2_with fail
      refine (putvar_any (n : Int) _ (by omega) (by omega)).mono ?_
      rintro e w1 ⟨rfl, rfl⟩
      clear c0
      generalize wr.alloc (pvObj (n : Int)) = w1 at *
      go_wp2_with fail
      refine (each_any au n cu ws _ tu0 hsm (by omega)).mono ?_
      rintro e w2 ⟨ve, rfl, oe, hb2⟩
      obtain ⟨ae, ce, rfl, -, -, be, -⟩ := oe.bvn (eachL_bytes ws) _ rfl
      replace ho0 := ho0.below hb2
      replace bt0 := bt0.below hb2
      have hs2 := hb2.size
      replace hb0 := hb0.trans (hb2.mono hb0.size)
      have hs3 := hb0.size
      clear oe hb2 tu0 c1
      go_wp2_with (at_builtin; first | (refine append_ow2 rfl (.tmp 30) (.tmp 32) rfl w.heap.size _ _ rfl ho0 _ _ ce _ rfl be (by omega) hs3 ?_; intro v3 w3 ho3 hb3 _ hk3; have bt3 : BV w3 at' bs.length bs := bt0.otherN (fun x hx h0 hlt => hk3 x.block hlt (fun h => by have h1 : some wr.heap.size = some x.block := h; have h2 := Option.some.inj h1; rcases HTB.out x hx with h | h <;> omega)); clear hk3) | (refine append_ow rfl (.tmp 34) (.tmp 35) rfl w.heap.size _ _ rfl ho3 _ _ ct _ rfl bt3 (by rw [List.length_append]; omega) (Nat.le_trans hs3 (hb3.size)) ?_; intro v4 w4 ho4 hb4))
      go_ret
      refine ⟨_, rfl, ?_, (hb0.trans hb3).trans hb4⟩
      rw [dictL, ← HW'.out, ← HB'.out, HN.out, ← List.append_assoc]
      exact ho4
set_option maxHeartbeats 1000000 in
theorem putT_any (A : Option Addr) (N C : Nat) (l : List ByteArray) (w : World) (hv : TV w A N l) (hr : Sm l) (hN : N ≤ 2000) :
    Calls Tryz.prog 117 #[.slice A N C] w fun e w' => ∃ v, e = .returned v ∧ OW w' w.heap.size v (putT l) ∧ Below w.heap.size w w' := by
  have hl := TV.len hv
  have HL := Lib.hid hl
  have hwu : IntKind.u64.wrap (N : Int) = (N : Int) := u64_same (by omega) (by omega)
  have hlp := pv_len10 (x := (N : Int)) (by omega)
  have ho0 := OW.pv (N : Int) w w.heap.size (Nat.le_refl _) (by omega) w.heap.size rfl
  have hb0 := (Below.refl w.heap.size w).alloc (Nat.le_refl _) (pvObj (N : Int))
  have hv0 : TV (w.alloc (pvObj (N : Int))) A N l := hv.alloc (pvObj (N : Int))
  have hlf := eachL_len210 hr
  have hld := dictL_len hr (by omega)
  rw [hl] at hlf
  obtain ⟨D, hD⟩ : ∃ D, (dictL l).length = D := ⟨_, rfl⟩
  obtain ⟨F, hF⟩ : ∃ F, (eachL l).length = F := ⟨_, rfl⟩
  have HD := Lib.hid hD
  have HF := Lib.hid hF
  have HB : Hid (shortT l = decide (D < F)) := Lib.hid (by rw [shortT, hD, hF])
  have HDB := Lib.hid (dictL_bytes (l := l) (by omega))
  rw [hD] at hld
  rw [hF] at hlf
  clear hl hD hF
  go_enter Tryz.func117, Tryz.ntmps117
  go_wp2_with fail
  refine (putvar_any (N : Int) _ (by omega) (by omega)).mono ?_
  rintro e w1 ⟨rfl, rfl⟩
  have hs0 : w.heap.size < (w.alloc (pvObj (N : Int))).heap.size := by simp
  generalize w.alloc (pvObj (N : Int)) = w0 at *
  go_wp2_with fail
  refine (each_any A N C l _ hv0 hr hN).mono ?_
  rintro e w1 ⟨vf, rfl, of1, hb1⟩
  obtain ⟨af, cf, rfl, hcf, -, bf, lf⟩ := of1.bvn (eachL_bytes l) F HF.out
  have hs1 := hb1.size
  replace ho0 := ho0.below hb1
  replace hv0 := hv0.below hb1
  replace hb0 := Below.then hb0 hb1
  clear of1 hb1
  go_wp2_with fail
  refine (dict_any A N C l _ hv0 hr hN).mono ?_
  rintro e w2 ⟨vd, rfl, od1, hb2⟩
  obtain ⟨ad, cd, rfl, hcd, -, bd, ld⟩ := od1.bvn HDB.out D HD.out
  have hs2 := hb2.size
  replace ho0 := ho0.below hb2
  replace bf := bf.below hb2
  replace hb0 := Below.then hb0 hb2
  clear od1 hb2 hv0
  by_cases hlt : D < F
  · have hlti : (D : Int) < (F : Int) := by omega
    have b1 := BV.one1 w2 1 (by omega) (by omega)
    replace ho0 := ho0.alloc (.cells #[.int .u8 1] 5)
    replace bd := bd.alloc (.cells #[.int .u8 1] 5)
    replace hb0 := hb0.alloc hb0.size (.cells #[.int .u8 1] 5)
    have hs3 := hb0.size
    go_wp2_with (at_builtin; first | (refine append_ow2 rfl (.tmp 19) (.tmp 20) rfl w.heap.size _ _ rfl ho0 _ 1 1 _ rfl b1 (by omega) hs3 ?_; intro v3 w3 ho3 hb3 _ hk3; have bd3 := bd.other (fun x hx hlt => hk3 x.block hlt (fun h => by have h1 : some w.heap.size = some x.block := h; have h2 := Option.some.inj h1; have := ld x hx; omega)); clear hk3) | (refine append_ow rfl (.tmp 22) (.tmp 23) rfl w.heap.size _ _ rfl ho3 _ _ _ _ rfl bd3 (by rw [List.length_append, List.length_singleton]; omega) (Nat.le_trans hs3 (hb3.size)) ?_; intro v4 w4 ho4 hb4))
    go_ret
    refine ⟨_, rfl, ?_, (hb0.trans hb3).trans hb4⟩
    rw [putT, bodyT, HB.out, if_pos (decide_eq_true hlt), HL.out]
    rw [List.append_assoc] at ho4
    exact ho4
  · have hlti : ¬ (D : Int) < (F : Int) := by omega
    have b1 := BV.one1 w2 0 (by omega) (by omega)
    replace ho0 := ho0.alloc (.cells #[.int .u8 0] 5)
    replace bf := bf.alloc (.cells #[.int .u8 0] 5)
    replace hb0 := hb0.alloc hb0.size (.cells #[.int .u8 0] 5)
    have hs3 := hb0.size
    go_wp2_with (at_builtin; first | (refine append_ow2 rfl (.tmp 25) (.tmp 26) rfl w.heap.size _ _ rfl ho0 _ 1 1 _ rfl b1 (by omega) hs3 ?_; intro v3 w3 ho3 hb3 _ hk3; have bf3 := bf.other (fun x hx hlt => hk3 x.block hlt (fun h => by have h1 : some w.heap.size = some x.block := h; have h2 := Option.some.inj h1; have := lf x hx; omega)); clear hk3) | (refine append_ow rfl (.tmp 28) (.tmp 29) rfl w.heap.size _ _ rfl ho3 _ _ _ _ rfl bf3 (by rw [List.length_append, List.length_singleton]; omega) (Nat.le_trans hs3 (hb3.size)) ?_; intro v4 w4 ho4 hb4))
    go_ret
    refine ⟨_, rfl, ?_, (hb0.trans hb3).trans hb4⟩
    rw [putT, bodyT, HB.out, if_neg (by simpa using hlt), HL.out]
    rw [List.append_assoc] at ho4
    exact ho4
end Go.Proofs.YtbfihajgjbpmaaaGreat
/- Plain facts on how columns of texts are read; contracts of readBelow, readEach. -/
namespace Go.Proofs.YtbfihajgjbpmaaaGreat
open Go.ChangeShapes Go.WideShapes Go.ChangeAt Go.RowKit
set_option linter.unusedVariables false
set_option maxRecDepth 4000

/-- what zs says, when it says how many -/
theorem putT_of {zs body : List Int} {c : Int} (hc : 0 ≤ c ∧ c ≤ 18446744073709551615) (hz : zs = pv c ++ body) {k : List ByteArray} (hk : k.length ≤ 2000) (h : putT k = zs) : (k.length : Int) = c ∧ bodyT k = body := by
  rw [hz, putT] at h
  exact pv_cut (by omega) hc h
theorem noT_below {zs : List Int} (h : ∀ (k : Nat) (r : List Int), (k : Int) < 2001 → zs ≠ pv (k : Int) ++ r) : NoT zs := by
  intro k hk hp
  have := hk.1
  exact h k.length (bodyT k) (by omega) hp.symm
theorem noT_empty {zs : List Int} {c : Int} (hc : 0 ≤ c ∧ c ≤ 18446744073709551615) (hz : zs = pv c ++ []) : NoT zs := by
  intro k hk hp
  have h1 := (putT_of hc hz hk.1 hp).2
  have h2 := (bodyT_len k).1
  rw [h1] at h2
  simp at h2
theorem noT_way {zs r : List Int} {c y : Int} (hc : 0 ≤ c ∧ c ≤ 18446744073709551615) (hz : zs = pv c ++ (y :: r)) (h0 : y ≠ 0) (h1 : y ≠ 1) : NoT zs := by
  intro k hk hp
  have h2 := (putT_of hc hz hk.1 hp).2
  unfold bodyT at h2
  split at h2
  · rw [List.cons.injEq] at h2; exact h1 h2.1.symm
  · rw [List.cons.injEq] at h2; exact h0 h2.1.symm
theorem wayT0 {zs r : List Int} {N : Nat} (hz : zs = pv (N : Int) ++ (0 :: r)) (hN : N ≤ 2000) {k : List ByteArray} (hn : k.length ≤ 2000) (hp : putT k = zs) : k.length = N ∧ eachL k = r := by
  obtain ⟨h1, h2⟩ := putT_of (by omega) hz hn hp
  unfold bodyT at h2
  split at h2
  · rw [List.cons.injEq] at h2; exact absurd h2.1 (by decide)
  · rw [List.cons.injEq] at h2; exact ⟨by omega, h2.2⟩
theorem wayT1 {zs r : List Int} {N : Nat} (hz : zs = pv (N : Int) ++ (1 :: r)) (hN : N ≤ 2000) {k : List ByteArray} (hn : k.length ≤ 2000) (hp : putT k = zs) : k.length = N ∧ dictL k = r := by
  obtain ⟨h1, h2⟩ := putT_of (by omega) hz hn hp
  unfold bodyT at h2
  split at h2
  · rw [List.cons.injEq] at h2; exact ⟨by omega, h2.2⟩
  · rw [List.cons.injEq] at h2; exact absurd h2.1 (by decide)
theorem below_none {zs : List Int} (h : (varR zs).2 = 0) (k : Nat) (r : List Int) (hk : (k : Int) < 10000) : zs ≠ pv (k : Int) ++ r := by
  intro e
  have := varR_put (k : Int) r (by omega) (by omega)
  rw [← e] at this
  rw [this] at h
  have hp := pv_pos (k : Int)
  simp at h
  rw [h] at hp
  simp at hp
theorem below_not {zs rest : List Int} {y : Int} (hy : 0 ≤ y ∧ y ≤ 18446744073709551615) (hz : zs = pv y ++ rest) (k : Nat) (r : List Int) (hk : (k : Int) < y) : zs ≠ pv (k : Int) ++ r := by
  intro e
  rw [hz] at e
  have := (pv_cut hy (by omega) e).1
  omega
/-- what readBelow tells -/
def BelowE (w w' : World) (a0 : Option Addr) (n0 : Nat) (zs : List Int) (top : Int) (e : Ending) : Prop :=
  (∃ (x : Nat) (r : List Int) (a : Option Addr) (n c : Nat), e = .returned (.tuple #[.int .i64 (x : Int), .slice a n c, .bool true]) ∧ (x : Int) < top ∧ zs = pv (x : Int) ++ r ∧ n ≤ c ∧ n ≤ n0 ∧ (∀ V, BV V a0 n0 zs → BV V a n r) ∧ Below w.heap.size w w') ∨
  (e = .returned (.tuple #[.int .i64 0, .slice none 0 0, .bool false]) ∧ (∀ (k : Nat) (r : List Int), (k : Int) < top → zs ≠ pv (k : Int) ++ r) ∧ Below w.heap.size w w')
set_option maxHeartbeats 1000000 in
theorem treadb_any (top : Int) (ht0 : 0 ≤ top) (ht1 : top ≤ 2001) (a : Option Addr) (n c : Nat) (zs : List Int) (w : World) (hv : BV w a n zs) (hc : n ≤ c) :
    Calls Tryz.prog 153 #[.int .i64 top, .slice a n c] w fun e w' => BelowE w w' a n zs top e := by
  have hlz := hv.1
  have hwt : IntKind.u64.wrap top = top := u64_same ht0 (by omega)
  by_cases hs0 : (varR zs).2 = 0
  · have hno := Lib.hid (varR_none hs0)
    have HF : Hid (∀ (k : Nat) (r : List Int), (k : Int) < top → zs ≠ pv (k : Int) ++ r) := Lib.hid (fun k r hk => below_none hs0 k r (by omega))
    clear hs0 hlz
    go_enter Tryz.func153, Tryz.ntmps153
    go_wp2_with fail
    refine (var_any a n c zs _ hv).mono ?_
    rw [hno.out]
    rintro e w' ⟨rfl, rfl⟩
    clear hno
    go_wp2_with fail
    go_ret3
    exact .inr ⟨rfl, HF.out, Below.refl _ _⟩
  · obtain ⟨y, rest, hrr, hy0, hy1, hvar⟩ := varR_back zs hv.2.1 hs0
    have hpos := pv_pos y
    have hl10 := pv_len10 (x := y) (by omega)
    obtain ⟨s, hs⟩ : ∃ s, (pv y).length = s := ⟨_, rfl⟩
    rw [hs] at hvar hpos hl10
    have hsn : n = s + rest.length := by
      have := congrArg List.length hrr
      rw [List.length_append, hlz, hs] at this; exact this
    have HV := Lib.hid hvar
    clear hs0 hlz hvar
    have hs1 : ((s : Int) == 0) = false := by rw [beq_eq_false_iff_ne]; omega
    by_cases hmany : top ≤ y
    · have HF : Hid (∀ (k : Nat) (r : List Int), (k : Int) < top → zs ≠ pv (k : Int) ++ r) := Lib.hid (fun k r hk => below_not ⟨hy0, hy1⟩ hrr k r (by omega))
      clear hrr hsn hs
      go_enter Tryz.func153, Tryz.ntmps153
      go_wp2_with fail
      refine (var_any a n c zs _ hv).mono ?_
      rw [HV.out]
      rintro e w' ⟨rfl, rfl⟩
      go_wp2_with fail
      go_ret3
      exact .inr ⟨rfl, HF.out, Below.refl _ _⟩
    · obtain ⟨x, rfl⟩ : ∃ x : Nat, y = (x : Int) := ⟨y.toNat, by omega⟩
      have hxi : IntKind.i64.wrap (x : Int) = (x : Int) := by rw [IntKind.wrap_i64]; omega
      obtain ⟨a', hsl, -⟩ := hv.slice_lo s c (by omega) hc
      have HR : Hid (∀ V, BV V a n zs → BV V a' (n - s) rest) := Lib.hid (fun V hV => by
        obtain ⟨a2, hsl2, hb2⟩ := hV.slice_lo s c (by omega) hc
        have e1 := (hsl V).symm.trans (hsl2 V)
        simp only [Result.ok.injEq, Value.slice.injEq, and_true] at e1
        rw [e1]
        rw [show zs.drop s = rest by rw [hrr, ← hs]; exact List.drop_left' rfl] at hb2
        exact hb2)
      have HZ := Lib.hid hrr
      clear hrr hsn hs
      go_enter Tryz.func153, Tryz.ntmps153
      go_wp2_with fail
      refine (var_any a n c zs _ hv).mono ?_
      rw [HV.out]
      rintro e w' ⟨rfl, rfl⟩
      go_wp2_with fail
      refine wp_region_noPanic ?_
      refine region_g 8 (Ext (World.drew _)) (by kernel_rfl) (Ext.refl _) (fun hS => ?_)
      refine take_w (i := 0) (v := ?_) (some 22) rfl (by kernel_rfl) rfl (fun _ _ _ h => h) (Or.inl ⟨by rfl, ?_⟩) hS ?_
      rotate_left
      · (intro wq hq; go_simp); first | done | with_reducible rfl
      try simp only [Act.put, List.setIfInBounds_toArray, List.set_cons_zero, List.set_cons_succ]
      replace hS := Till.list 0 hS
      refine take_w (i := 2) (v := ?_) (some 24) rfl (by kernel_rfl) rfl (fun _ _ _ h => h) (Or.inl ⟨by rfl, ?_⟩) hS ?_
      rotate_left
      · (intro wq hq; go_simp); first | done | with_reducible rfl
      try simp only [Act.put, List.setIfInBounds_toArray, List.set_cons_zero, List.set_cons_succ]
      replace hS := Till.list 2 hS
      refine take_w (i := 3) (v := ?_) (some 25) rfl (by kernel_rfl) rfl (fun _ _ _ h => h) (Or.inl ⟨by rfl, ?_⟩) hS ?_
      rotate_left
      · (intro wq hq; go_simp); first | done | with_reducible rfl
      try simp only [Act.put, List.setIfInBounds_toArray, List.set_cons_zero, List.set_cons_succ]
      replace hS := Till.list 3 hS
      refine take_w (i := 1) (v := ?_) (some 23) rfl (by kernel_rfl) rfl (fun _ _ _ h => h) (Or.inl ⟨by rfl, ?_⟩) hS ?_
      rotate_left
      · (intro wq hq; go_simp); first | done | with_reducible rfl
      try simp only [Act.put, List.setIfInBounds_toArray, List.set_cons_zero, List.set_cons_succ]
      replace hS := Till.list 1 hS
      refine take_w (i := 4) (v := ?_) (some 26) rfl (by kernel_rfl) rfl (fun _ _ _ h => h) (Or.inl ⟨by rfl, ?_⟩) hS ?_
      rotate_left
      · (intro wq hq; go_simp); first | done | with_reducible rfl
      try simp only [Act.put, List.setIfInBounds_toArray, List.set_cons_zero, List.set_cons_succ]
      replace hS := Till.list 4 hS
      refine take_w (i := 5) (v := ?_) (some 4) rfl (by kernel_rfl) rfl (fun _ _ _ h => h) (Or.inl ⟨by rfl, ?_⟩) hS ?_
      rotate_left
      · (intro wq hq; go_simp); first | done | with_reducible rfl
      try simp only [Act.put, List.setIfInBounds_toArray, List.set_cons_zero, List.set_cons_succ]
      replace hS := Till.list 5 hS
      refine take_w (i := 6) (v := ?_) (some 5) rfl (by kernel_rfl) rfl (fun _ _ _ h => h) (Or.inl ⟨by rfl, ?_⟩) hS ?_
      rotate_left
      · (intro wq hq; go_simp); first | done | with_reducible rfl
      try simp only [Act.put, List.setIfInBounds_toArray, List.set_cons_zero, List.set_cons_succ]
      replace hS := Till.list 6 hS
      refine take_w (i := 7) (v := ?_) (some 6) rfl (by kernel_rfl) rfl (fun _ _ _ h => h) (Or.inl ⟨by rfl, ?_⟩) hS ?_
      rotate_left
      · (intro wq hq; go_simp); first | done | with_reducible rfl
      try simp only [Act.put, List.setIfInBounds_toArray, List.set_cons_zero, List.set_cons_succ]
      replace hS := Till.list 7 hS
      refine done_g (by kernel_rfl) (NoPanic.normal ?_) _
      clear hS
      go_wp2_with fail
      go_ret3
      exact .inl ⟨x, rest, a', n - s, c - s, rfl, by omega, HZ.out, by omega, by omega, HR.out, (Below.refl _ _).drew⟩
end Go.Proofs.YtbfihajgjbpmaaaGreat
/- Contract of readEach. -/
namespace Go.Proofs.YtbfihajgjbpmaaaGreat
open Go.ChangeShapes Go.WideShapes Go.ChangeAt Go.RowKit
set_option linter.unusedVariables false
set_option maxRecDepth 4000

theorem madeCells_text (n : Nat) : madeCells #[Value.string ⟨#[]⟩] n = (tcells (List.replicate n ⟨#[]⟩)).toArray := by
  refine Array.ext' ?_
  simp [madeCells, tcells]
  refine List.ext_getElem (by simp) (fun i h1 h2 => ?_)
  simp [Nat.mod_one]
theorem make_texts (N : Nat) (h : N ≤ 2000) (w : World) : (Instr.makeSlice 101 (.int .i64 (N : Int)) (.int .i64 (N : Int))).run Tryz.prog w = .ok (.slice (some ⟨w.heap.size, 0, none⟩) N N) (w.alloc (.cells (tcells (List.replicate N ⟨#[]⟩)).toArray 9)) := by
  have := run_make_row' (P := Tryz.prog) 101 9 (.string ⟨#[]⟩) 16 Tryz.underlying101 (by kernel_rfl) rfl .i64 .i64 N (by omega) (by omega) w
  rw [madeCells_text] at this
  exact this
theorem OS.beginT {w : World} {N : Nat} (h : N ≤ maxLen) (base : Nat) (hb : base ≤ w.heap.size) : OS 1 (w.alloc (.cells (tcells (List.replicate N ⟨#[]⟩)).toArray 9)) base (.slice (some ⟨w.heap.size, 0, none⟩) N N) N (tcells ([] ++ List.replicate (N - 0) ⟨#[]⟩)) := by
  rw [List.nil_append, Nat.sub_zero]
  exact OS.lit (k := 1) w base hb _ N 9 (by simp [tcells]) (tcells_one _) h _ rfl
theorem fillT_at {p : List ByteArray} {j N : Nat} (hp : p.length = j) (h : j < N) : (tcells (p ++ List.replicate (N - j) ⟨#[]⟩))[j]? = some (.string ⟨#[]⟩) := by
  subst hp
  obtain ⟨m, hm⟩ : ∃ m, N - p.length = m + 1 := ⟨N - p.length - 1, by omega⟩
  rw [hm, List.replicate_succ, tcells, List.map_append, List.getElem?_append_right (by simp)]
  simp
theorem fillT_set {p : List ByteArray} {j N : Nat} {x : ByteArray} (hp : p.length = j) (h : j < N) : (tcells (p ++ List.replicate (N - j) ⟨#[]⟩)).set j (.string x) = tcells ((p ++ [x]) ++ List.replicate (N - (j + 1)) ⟨#[]⟩) := by
  subst hp
  obtain ⟨m, hm⟩ : ∃ m, N - p.length = m + 1 := ⟨N - p.length - 1, by omega⟩
  rw [hm, show N - (p.length + 1) = m from by omega, List.replicate_succ]
  simp [tcells]
theorem few_snoc6 {l : List ByteArray} (h : Few60 l) {x : ByteArray} (hx : x.size ≤ 60) : Few60 (l ++ [x]) := by
  intro s hs
  rcases List.mem_append.1 hs with hs | hs
  · exact h s hs
  · rw [List.mem_singleton.1 hs]; exact hx
/-- what readEach tells -/
def EachE (w w' : World) (a0 : Option Addr) (n0 : Nat) (zs : List Int) (N : Nat) (e : Ending) : Prop :=
  (∃ (A : Option Addr) (C : Nat) (l : List ByteArray) (r : List Int) (a : Option Addr) (n c : Nat), e = .returned (.tuple #[.slice A N C, .slice a n c, .bool true]) ∧ N ≤ C ∧ Few60 l ∧ TV w' A N l ∧ zs = eachL l ++ r ∧ n ≤ c ∧ n ≤ n0 ∧ (∀ V, BV V a0 n0 zs → BV V a n r) ∧ Below w.heap.size w w') ∨
  (e = .returned (.tuple #[.slice none 0 0, .slice none 0 0, .bool false]) ∧ (∀ u, Few60 u → u.length = N → ∀ r', eachL u ++ r' ≠ zs) ∧ Below w.heap.size w w')
theorem each_bad_below {r : List Int} (h : ∀ (k : Nat) (r' : List Int), (k : Int) < 61 → r ≠ pv (k : Int) ++ r') : ∀ (k : Nat) (q r' : List Int), k ≤ 60 → q.length = k → r ≠ pv (k : Int) ++ (q ++ r') :=
  fun k q r' hk _ => h k (q ++ r') (by omega)
set_option maxHeartbeats 2000000 in
theorem treade_any (N : Nat) (hN : N ≤ 2000) (a0 : Option Addr) (n0 c0 : Nat) (zs : List Int) (w : World) (hv0 : BV w a0 n0 zs) (hc0 : n0 ≤ c0) :
    Calls Tryz.prog 154 #[.int .i64 (N : Int), .slice a0 n0 c0] w fun e w' => EachE w w' a0 n0 zs N e := by
  have hmk := make_texts N hN
  go_enter Tryz.func154, Tryz.ntmps154
  go_wp2_with fail
  clear hmk
  have o0 := OS.beginT (w := w) (few_max' (n := N) (by omega)) w.heap.size (Nat.le_refl _)
  have hw0 : Below w.heap.size w (w.alloc (.cells (tcells (List.replicate N ⟨#[]⟩)).toArray 9)) := Joins.below_alloc1 _ _
  go_loopw [1, 16] (fun v i wr => ∃ (j : Nat) (a : Option Addr) (n c : Nat) (p : List ByteArray) (r : List Int), j ≤ N ∧ i = .int .i64 (j : Int) ∧ v = .slice a n c ∧ n ≤ c ∧ n ≤ n0 ∧ Hid (∀ V, BV V a0 n0 zs → BV V a n r) ∧ Hid (p.length = j) ∧ Few60 p ∧ Hid (zs = eachL p ++ r) ∧ OS 1 wr w.heap.size (.slice (some ⟨w.heap.size, 0, none⟩) N N) N (tcells (p ++ List.replicate (N - j) ⟨#[]⟩)) ∧ Below w.heap.size w wr) (fun _ i _ => N - (intOf i).toNat)
  case atStart => exact ⟨0, _, _, _, [], zs, by omega, rfl, rfl, hc0, Nat.le_refl _, Lib.hid (fun V h => h), Lib.hid rfl, (fun x hx => by cases hx), Lib.hid rfl, o0, hw0⟩
  case round =>
    clear o0 hw0
    obtain ⟨j, a, n, c, p, r, hj, rfl, rfl, hc, hn0, HV, HP, hf, HZ, ho, hbel⟩ := hrel
    by_cases hlt : j < N
    · have hji : (j : Int) < (N : Int) := by omega
      have hvr := (HV.out w hv0).below hbel
      go_wp2_with fail
      refine (treadb_any 61 (by omega) (by omega) a n c r _ hvr hc).mono ?_
      rintro e w2 he
      rcases he with ⟨x, r2, a2, n2, c2, rfl, hx, hr2, hc2, hn2, hV2, hb2⟩ | ⟨rfl, hno, hb2⟩
      · replace hbel := Below.then hbel hb2
        have hvr2 := hV2 _ (hvr.below hb2)
        have HV2 := Lib.hid hV2
        have HR2 := Lib.hid hr2
        have hlr2 := Lib.hid hvr2.1
        clear hV2 hr2 hvr
        by_cases hfew : n2 < x
        · have hfi : (n2 : Int) < (x : Int) := by omega
          have HF := Lib.hid (each_few HZ.out (by rw [HP.out]; exact hlt) hf (each_bad_few (by omega) HR2.out (by rw [hlr2.out]; omega)))
          clear hvr2
          go_wp2_with fail
          go_ret3
          exact .inr ⟨rfl, HF.out, hbel⟩
        · have hfi : ¬ (n2 : Int) < (x : Int) := by omega
          replace ho := ho.below hb2
          obtain ⟨a3, hsl3, bv3⟩ := hvr2.slice_hi x c2 (by omega) hc2
          obtain ⟨a4, hsl4, -⟩ := hvr2.slice_lo x c2 (by omega) hc2
          have HV4 : Hid (∀ V, BV V a0 n0 zs → BV V a4 (n2 - x) (r2.drop x)) := Lib.hid (fun V hV => by
            obtain ⟨a5, hsl5, hb5⟩ := (HV2.out V (HV.out V hV)).slice_lo x c2 (by omega) hc2
            have e1 := (hsl4 V).symm.trans (hsl5 V)
            simp only [Result.ok.injEq, Value.slice.injEq, and_true] at e1
            rw [e1]
            exact hb5)
          have hcv := conv_any bv3 c2
          have hql : (r2.take x).length = x := by rw [List.length_take, hlr2.out]; omega
          have hqb := bv3.2.1
          have HST : Hid (eachL p ++ r = eachL (p ++ [strOfNums (r2.take x)]) ++ r2.drop x) := Lib.hid (each_step (by rw [HR2.out, List.take_append_drop]) (by rw [hql]) hqb)
          have hxs : (strOfNums (r2.take x)).size ≤ 60 := by rw [str_size, hql]; omega
          generalize strOfNums (r2.take x) = t at hcv HST hxs
          obtain ⟨g, cp, hg, -, -, -, hcell, hfree, hset⟩ := ho.own (by omega)
          cases hg
          have hcj := hcell j _ (fillT_at HP.out hlt)
          have hfj := hfree j
          have ho3 := hset j (.string t) (by omega) rfl
          rw [fillT_set HP.out hlt] at ho3
          have hw3 := hbel.setCell (p := ⟨w.heap.size, j, none⟩) (Nat.le_refl _) (.string t)
          clear hcell hfree hset ho hbel hb2 bv3 hvr2 hql hqb
          go_wp2_with fail
          go_roundw
          case rel => exact ⟨j + 1, _, _, _, p ++ [t], r2.drop x, by omega, by go_num, rfl, by omega, by omega, HV4, Lib.hid (by rw [List.length_append, HP.out, List.length_singleton]), few_snoc6 hf hxs, Lib.hid (by rw [HZ.out, HST.out]), ho3, hw3⟩
          case measure => simp [intOf]; omega
      · replace hbel := Below.then hbel hb2
        have HF := Lib.hid (each_few HZ.out (by rw [HP.out]; exact hlt) hf (each_bad_below hno))
        clear hno hvr
        go_wp2_with fail
        go_ret3
        exact .inr ⟨rfl, HF.out, hbel⟩
    · obtain rfl : j = N := by omega
      go_wp2_with fail
      go_ret3
      obtain ⟨A', C', hA, hC1, -, hv', -⟩ := ho.sv
      cases hA
      rw [Nat.sub_self, List.replicate_zero, List.append_nil] at hv'
      exact .inl ⟨_, _, p, r, a, n, c, rfl, Nat.le_refl _, hf, hv', HZ.out, hc, hn0, HV.out, hbel⟩
end Go.Proofs.YtbfihajgjbpmaaaGreat
/- Contracts of readDict, read, Take. -/
namespace Go.Proofs.YtbfihajgjbpmaaaGreat
open Go.ChangeShapes Go.WideShapes Go.ChangeAt Go.RowKit
set_option linter.unusedVariables false
set_option maxRecDepth 4000

/-- what readDict tells, and a reader of a way -/
def WayE (w w' : World) (N : Nat) (G : List ByteArray → Prop) (e : Ending) : Prop :=
  (∃ (A : Option Addr) (C : Nat) (l : List ByteArray), e = .returned (.tuple #[.slice A N C, .bool true]) ∧ N ≤ C ∧ Few60 l ∧ TV w' A N l ∧ (∀ u, Few60 u → u.length = N → G u → u = l) ∧ Below w.heap.size w w') ∨
  (e = .returned (.tuple #[.slice none 0 0, .bool false]) ∧ (∀ u, Few60 u → u.length = N → ¬ G u) ∧ Below w.heap.size w w')
theorem dict_no_size {zs : List Int} {N : Nat} (h : ∀ (k : Nat) (r : List Int), (k : Int) < (N : Int) + 1 → zs ≠ pv (k : Int) ++ r) : ∀ u, Few60 u → u.length = N → ¬ dictL u = zs := by
  intro u _ hn hp
  have := words_len u
  exact h (words u).length _ (by omega) hp.symm
theorem dict_no_words {zs body : List Int} {N K : Nat} (hN : N ≤ 2000) (hK : K ≤ N) (hz : zs = pv (K : Int) ++ body) (h : ∀ u, Few60 u → u.length = K → ∀ r', eachL u ++ r' ≠ body) : ∀ u, Few60 u → u.length = N → ¬ dictL u = zs := by
  intro u hu hn hp
  obtain ⟨h1, h2⟩ := dict_says hu (by omega) (by omega) hz hp
  exact h (words u) (words_few hu) (by omega) _ h2
/-- what the way by places says, when the words are known -/
theorem dict_rest {zs body r1 : List Int} {N K : Nat} {ws : List ByteArray} (hN : N ≤ 2000) (hK : K ≤ N) (hz : zs = pv (K : Int) ++ body) (hb : body = eachL ws ++ r1) (hw : ws.length = K) (hf : Few60 ws) {u : List ByteArray} (hu : Few60 u) (hn : u.length = N) (hp : dictL u = zs) : words u = ws ∧ joinN (placesL u) = r1 := by
  obtain ⟨h1, h2⟩ := dict_says hu (by omega) (by omega) hz hp
  exact each_one hb hw hf (words u) (words_few hu) (by omega) _ h2
theorem dict_no_place {r1 r : List Int} {N K : Nat} {ws : List ByteArray} {zs : List Int} (hK : K ≤ 2000) (hw : ws.length = K) (hd : ∀ u, Few60 u → u.length = N → dictL u = zs → words u = ws ∧ joinN (placesL u) = r1) {ps : List Int} (hr : r1 = joinN ps ++ r) (hl : ps.length < N) (hps : ∀ q ∈ ps, 0 ≤ q ∧ q < (K : Int)) (hno : ∀ (k : Nat) (r' : List Int), (k : Int) < (K : Int) → r ≠ pv (k : Int) ++ r') : ∀ u, Few60 u → u.length = N → ¬ dictL u = zs := by
  intro u hu hn hp
  obtain ⟨h1, h2⟩ := hd u hu hn hp
  have hlt := places_lt u
  rw [h1, hw] at hlt
  refine places_few hr hl (fun q hq => by have := hps q hq; omega) (W := (K : Int)) ?_ (by omega) (placesL u) hlt (by rw [places_len]; exact hn) h2
  intro k r' hk0 hk1 _
  have := hno k.toNat r' (by omega)
  rwa [Int.toNat_of_nonneg hk0] at this
theorem dict_done {r1 r : List Int} {N K : Nat} {ws : List ByteArray} {zs : List Int} (hK : K ≤ 2000) (hN : N ≤ 2000) (hd : ∀ u, Few60 u → u.length = N → dictL u = zs → words u = ws ∧ joinN (placesL u) = r1) {ps : List Int} (hr : r1 = joinN ps ++ r) (hl : ps.length = N) (hps : ∀ q ∈ ps, 0 ≤ q ∧ q < (K : Int)) : ∀ u, Few60 u → u.length = N → dictL u = zs → u = byPlaces ws ps := by
  intro u hu hn hp
  obtain ⟨h1, h2⟩ := hd u hu hn hp
  rw [hr] at h2
  have := (joinN_cut (placesL u) ps (places_u64 (by omega)) (fun q hq => by have := hps q hq; omega) (by rw [places_len]; omega) (r := []) (by rw [List.append_nil]; exact h2)).1
  rw [← h1, ← this, byPlaces_back]
set_option maxHeartbeats 2000000 in
theorem treadd_any (N : Nat) (hN : N ≤ 2000) (a0 : Option Addr) (n0 c0 : Nat) (zs : List Int) (w : World) (hv0 : BV w a0 n0 zs) (hc0 : n0 ≤ c0) :
    Calls Tryz.prog 155 #[.int .i64 (N : Int), .slice a0 n0 c0] w fun e w' => WayE w w' N (fun u => dictL u = zs) e := by
  go_enter Tryz.func155, Tryz.ntmps155
  go_wp2_with fail
  refine (treadb_any ((N : Int) + 1) (by omega) (by omega) a0 n0 c0 zs _ hv0 hc0).mono ?_
  rintro e w1 he
  rcases he with ⟨K, body, a1, n1, c1, rfl, hK, hz, hc1, hn1, hV1, hb1⟩ | ⟨rfl, hno, hb1⟩
  rotate_left
  · have HF := Lib.hid (dict_no_size hno)
    clear hno
    go_wp2_with fail
    go_ret2
    exact .inr ⟨rfl, HF.out, hb1⟩
  have HZ := Lib.hid hz
  have hv1 := hV1 _ (hv0.below hb1)
  clear hV1 hz hv0
  go_wp2_with fail
  refine (treade_any K (by omega) a1 n1 c1 body _ hv1 hc1).mono ?_
  rintro e w2 he
  rcases he with ⟨Au, Cu, ws, r1, a2, n2, c2, rfl, hCu, hf, vu, hbd, hc2, hn2, hV2, hb2⟩ | ⟨rfl, hno, hb2⟩
  rotate_left
  · have HF := Lib.hid (dict_no_words hN (by omega) HZ.out hno)
    clear hno
    go_wp2_with fail
    go_ret2
    exact .inr ⟨rfl, HF.out, Below.then hb1 hb2⟩
  replace hb1 := Below.then hb1 hb2
  have hv2 := hV2 _ (hv1.below hb2)
  have HWL := Lib.hid (TV.len vu)
  have HD : Hid (∀ u, Few60 u → u.length = N → dictL u = zs → words u = ws ∧ joinN (placesL u) = r1) := Lib.hid (fun u hu hn hp => dict_rest hN (by omega) HZ.out hbd HWL.out hf hu hn hp)
  clear hV2 hv1 hb2 hbd HZ
  have hmk := make_texts N hN
  have o0 := OS.beginT (w := w2) (few_max' (n := N) (by omega)) w2.heap.size (Nat.le_refl _)
  have hw0 : Below w2.heap.size w2 (w2.alloc (.cells (tcells (List.replicate N ⟨#[]⟩)).toArray 9)) := Joins.below_alloc1 _ _
  go_wp2_with fail
  clear hmk
  go_loopw [7, 38] (fun v i wr => ∃ (j : Nat) (a : Option Addr) (n c : Nat) (ps : List Int) (r : List Int), j ≤ N ∧ i = .int .i64 (j : Int) ∧ v = .slice a n c ∧ n ≤ c ∧ BV w2 a n r ∧ Hid (ps.length = j) ∧ Hid (∀ q ∈ ps, 0 ≤ q ∧ q < (K : Int)) ∧ Hid (r1 = joinN ps ++ r) ∧ OS 1 wr w2.heap.size (.slice (some ⟨w2.heap.size, 0, none⟩) N N) N (tcells (byPlaces ws ps ++ List.replicate (N - j) ⟨#[]⟩)) ∧ Below w2.heap.size w2 wr) (fun _ i _ => N - (intOf i).toNat)
  case atStart => exact ⟨0, _, _, _, [], r1, by omega, rfl, rfl, hc2, hv2, Lib.hid rfl, Lib.hid (fun x hx => by cases hx), Lib.hid rfl, o0, hw0⟩
  case round =>
    clear o0 hw0 hv2 hc2 hn2
    obtain ⟨j, a, n, c, ps, r, hj, rfl, rfl, hc, hv, HP, HQ, HR, ho, hbel⟩ := hrel
    have HB : Hid ((byPlaces ws ps).length = j) := Lib.hid (by rw [byPlaces_len]; exact HP.out)
    by_cases hlt : j < N
    · have hji : (j : Int) < (N : Int) := by omega
      have hvr := hv.below hbel
      go_wp2_with fail
      refine (treadb_any (K : Int) (by omega) (by omega) a n c r _ hvr hc).mono ?_
      rintro e w3 he
      rcases he with ⟨x, r3, a3, n3, c3, rfl, hx, hr3, hc3, hn3, hV3, hb3⟩ | ⟨rfl, hno, hb3⟩
      · have hbel3 := Below.then hbel hb3
        replace ho := ho.below hb3
        have hv3 := hV3 _ hv
        have HR3 : Hid (r1 = joinN (ps ++ [(x : Int)]) ++ r3) := Lib.hid (by rw [HR.out, hr3, joinN_snoc, List.append_assoc])
        have HQ3 : Hid (∀ q ∈ ps ++ [(x : Int)], 0 ≤ q ∧ q < (K : Int)) := Lib.hid (fun q hq => by
          rcases List.mem_append.1 hq with hq | hq
          · exact HQ.out q hq
          · rw [List.mem_singleton.1 hq]; omega)
        have HBP : Hid (byPlaces ws (ps ++ [(x : Int)]) = byPlaces ws ps ++ [ws.getD x ⟨#[]⟩]) := Lib.hid (by rw [byPlaces_snoc, Int.toNat_natCast])
        clear hV3 hr3 hvr hb3 hbel
        obtain ⟨bu, ou, rfl, hcx⟩ := TV.at vu x (by omega)
        replace hcx := keepc hcx hbel3
        have hxK : (x : Int) < (K : Int) := hx
        generalize ws.getD x ⟨#[]⟩ = t at hcx HBP
        obtain ⟨g, cp, hg, -, -, -, hcell, hfree, hset⟩ := ho.own (by omega)
        cases hg
        have hcj := hcell j _ (fillT_at HB.out hlt)
        have hfj := hfree j
        have ho3 := hset j (.string t) (by omega) rfl
        rw [fillT_set HB.out hlt] at ho3
        have hw3 := hbel3.setCell (p := ⟨w2.heap.size, j, none⟩) (Nat.le_refl _) (.string t)
        clear hcell hfree hset ho hbel3
        go_wp2_with fail
        go_roundw
        case rel => exact ⟨j + 1, _, _, _, ps ++ [(x : Int)], r3, by omega, by go_num, rfl, hc3, hv3, Lib.hid (by rw [List.length_append, HP.out, List.length_singleton]), HQ3, HR3, by rw [HBP.out]; exact ho3, hw3⟩
        case measure => simp [intOf]; omega
      · have hbel3 := Below.then hb1 (Below.then hbel hb3)
        have HF := Lib.hid (dict_no_place (by omega) HWL.out HD.out HR.out (by rw [HP.out]; exact hlt) HQ.out hno)
        clear hno hvr
        go_wp2_with fail
        go_ret2
        exact .inr ⟨rfl, HF.out, hbel3⟩
    · obtain rfl : j = N := by omega
      have HF := Lib.hid (dict_done (by omega) (by omega) HD.out HR.out HP.out HQ.out)
      go_wp2_with fail
      go_ret2
      obtain ⟨A', C', hA, hC1, -, hv', -⟩ := ho.sv
      cases hA
      rw [Nat.sub_self, List.replicate_zero, List.append_nil] at hv'
      exact .inl ⟨_, _, byPlaces ws ps, rfl, Nat.le_refl _, byPlaces_few hf ps, hv', HF.out, Below.then hb1 hbel⟩
end Go.Proofs.YtbfihajgjbpmaaaGreat
/- Contracts of read, Take. -/
namespace Go.Proofs.YtbfihajgjbpmaaaGreat
open Go.ChangeShapes Go.WideShapes Go.ChangeAt Go.RowKit
set_option linter.unusedVariables false
set_option maxRecDepth 4000

/-- what read tells -/
def ReadT (w w' : World) (zs : List Int) (e : Ending) : Prop :=
  (∃ (A : Option Addr) (N C : Nat) (l : List ByteArray), e = .returned (.tuple #[.slice A N C, .bool true]) ∧ N ≤ C ∧ N ≤ 2000 ∧ Few60 l ∧ TV w' A N l ∧ (∀ k, OkT k → putT k = zs → k = l) ∧ Below w.heap.size w w') ∨
  (e = .returned (.tuple #[.slice none 0 0, .bool false]) ∧ NoT zs ∧ Below w.heap.size w w')
theorem WayE.all {w0 w w' : World} {N : Nat} {G : List ByteArray → Prop} {e : Ending} {zs : List Int} (h : WayE w w' N G e) (hb0 : Below w0.heap.size w0 w) (hN : N ≤ 2000) (hG : ∀ k : List ByteArray, k.length ≤ 2000 → putT k = zs → k.length = N ∧ G k) : ReadT w0 w' zs e := by
  rcases h with ⟨A, C, l, he, hc, hi, hv, hu, hb⟩ | ⟨he, hn, hb⟩
  · refine .inl ⟨A, N, C, l, he, hc, hN, hi, hv, fun k hk hp => ?_, Below.then hb0 hb⟩
    obtain ⟨h1, h2⟩ := hG k hk.1 hp
    exact hu k hk.2 h1 h2
  · refine .inr ⟨he, fun k hk hp => ?_, Below.then hb0 hb⟩
    obtain ⟨h1, h2⟩ := hG k hk.1 hp
    exact hn k hk.2 h1 h2
theorem ReadT.shape {w w' : World} {zs : List Int} {e : Ending} (h : ReadT w w' zs e) : ∃ (A : Option Addr) (N C : Nat) (ok : Bool), e = .returned (.tuple #[.slice A N C, .bool ok]) := by
  rcases h with ⟨A, N, C, l, he, _⟩ | ⟨he, _⟩
  · exact ⟨A, N, C, _, he⟩
  · exact ⟨none, 0, 0, _, he⟩
theorem EachE.way {w w' : World} {a0 : Option Addr} {n0 N : Nat} {zs : List Int} {e : Ending} (h : EachE w w' a0 n0 zs N e) :
    ∃ (A : Option Addr) (n C : Nat) (a : Option Addr) (m c : Nat) (ok : Bool), e = .returned (.tuple #[.slice A n C, .slice a m c, .bool ok]) ∧ WayE w w' N (fun u => eachL u = zs) (.returned (.tuple #[.slice A n C, .bool ok])) := by
  rcases h with ⟨A, C, l, r, a, n, c, he, hC, hf, hv, hz, _, _, _, hb⟩ | ⟨he, hno, hb⟩
  · exact ⟨A, N, C, a, n, c, true, he, .inl ⟨A, C, l, rfl, hC, hf, hv, fun u hu hn hp => (each_one hz (TV.len hv) hf u hu hn [] (by rw [List.append_nil]; exact hp)).1, hb⟩⟩
  · exact ⟨none, 0, 0, none, 0, 0, false, he, .inr ⟨rfl, fun u hu hn hp => hno u hu hn [] (by rw [List.append_nil]; exact hp), hb⟩⟩
set_option maxHeartbeats 2000000 in
theorem tread_any (a : Option Addr) (n c : Nat) (zs : List Int) (w : World) (hv : BV w a n zs) (hc : n ≤ c) :
    Calls Tryz.prog 149 #[.slice a n c] w fun e w' => ReadT w w' zs e := by
  go_enter Tryz.func149, Tryz.ntmps149
  go_wp2_with fail
  refine (treadb_any 2001 (by omega) (by omega) a n c zs _ hv hc).mono ?_
  rintro e w1 he
  rcases he with ⟨N, body, a1, n1, c1, rfl, hN0, hz, hc1, hn1, hV1, hb1⟩ | ⟨rfl, hno, hb1⟩
  rotate_left
  · have HF := Lib.hid (noT_below hno)
    clear hno
    go_wp2_with fail
    go_ret2
    exact .inr ⟨rfl, HF.out, hb1⟩
  have hN : N ≤ 2000 := by omega
  have hv1 := hV1 _ (hv.below hb1)
  have hlb := hv1.1
  clear hV1 hv
  cases body with
  | nil =>
    obtain rfl : n1 = 0 := by simpa using hlb.symm
    have HF := Lib.hid (noT_empty (by omega) hz)
    clear hz hlb
    go_wp2_with fail
    go_ret2
    exact .inr ⟨rfl, HF.out, hb1⟩
  | cons x r =>
    have HZ := Lib.hid hz
    rw [List.length_cons] at hlb
    obtain ⟨a2, hsl0, bv2⟩ := hv1.slice_lo 1 c1 (by omega) hc1
    rw [show (x :: r).drop 1 = r from rfl] at bv2
    have hxb : 0 ≤ x ∧ x ≤ 255 := hv1.2.1 x (List.mem_cons_self ..)
    obtain ⟨b, off, rfl, hcell⟩ := hv1.opened (by omega)
    have hsl : ∀ wx, (Instr.slice 26 (.slice (some ⟨b, off, none⟩) n1 c1) (some (.int .i64 1)) none none).run Tryz.prog wx = .ok (.slice a2 (n1 - 1) (c1 - 1)) wx := hsl0
    have hcw : w1.cell? ⟨b, off, none⟩ = some (.int .u8 x) := hcell 0 (by omega)
    have hne : ((n1 : Int) == 0) = false := by rw [beq_eq_false_iff_ne]; omega
    have hn0 : (0 : Int) < (n1 : Int) := by omega
    have hn0n : 0 < n1 := by omega
    clear hsl0 hcell hz hlb hv1
    go_wp2_with fail
    refine wp_region_noPanic ?_
    refine region_g 7 (Ext (World.drew _)) (by kernel_rfl) (Ext.refl _) (fun hS => ?_)
    refine take_w (i := 0) (v := ?_) (some 24) rfl (by kernel_rfl) rfl (fun _ _ _ h => h) (Or.inl ⟨by rfl, ?_⟩) hS ?_
    rotate_left
    · (intro wq hq; go_simp); first | done | with_reducible rfl
    try simp only [Act.put, List.setIfInBounds_toArray, List.set_cons_zero, List.set_cons_succ]
    replace hS := Till.list 0 hS
    refine take_w (i := 3) (v := ?_) (some 27) rfl (by kernel_rfl) rfl (fun _ _ _ h => h) (Or.inl ⟨by rfl, ?_⟩) hS ?_
    rotate_left
    · (intro wq hq; go_simp); first | done | with_reducible rfl
    try simp only [Act.put, List.setIfInBounds_toArray, List.set_cons_zero, List.set_cons_succ]
    replace hS := Till.list 3 hS
    refine take_w (i := 1) (v := ?_) (some 25) rfl (by kernel_rfl) rfl (fun _ _ _ h => h) (Or.inl ⟨by rfl, ?_⟩) hS ?_
    rotate_left
    · (intro wq hq; go_simp); first | done | with_reducible rfl
    try simp only [Act.put, List.setIfInBounds_toArray, List.set_cons_zero, List.set_cons_succ]
    replace hS := Till.list 1 hS
    refine take_w (i := 4) (v := ?_) (some 28) rfl (by kernel_rfl) rfl (fun _ _ _ h => h) (Or.inl ⟨by rfl, ?_⟩) hS ?_
    rotate_left
    · (intro wq hq; go_simp); first | done | with_reducible rfl
    try simp only [Act.put, List.setIfInBounds_toArray, List.set_cons_zero, List.set_cons_succ]
    replace hS := Till.list 4 hS
    refine take_n (i := 2) (v := ?_) (some 26) rfl (by kernel_rfl) rfl (fun _ _ _ h => h) (Or.inl ⟨by rfl, ?_⟩) hS ?_
    rotate_left
    · (intro wq hq; have q0 := hq _ _ _ hcw; go_simp); first | done | with_reducible rfl
    try simp only [Act.put, List.setIfInBounds_toArray, List.set_cons_zero, List.set_cons_succ]
    replace hS := Till.list 2 hS
    refine take_w (i := 5) (v := ?_) (some 7) rfl (by kernel_rfl) rfl (fun _ _ _ h => h) (Or.inl ⟨by rfl, ?_⟩) hS ?_
    rotate_left
    · (intro wq hq; go_simp); first | done | with_reducible rfl
    try simp only [Act.put, List.setIfInBounds_toArray, List.set_cons_zero, List.set_cons_succ]
    replace hS := Till.list 5 hS
    refine take_w (i := 6) (v := ?_) (some 5) rfl (by kernel_rfl) rfl (fun _ _ _ h => h) (Or.inl ⟨by rfl, ?_⟩) hS ?_
    rotate_left
    · (intro wq hq; go_simp); first | done | with_reducible rfl
    try simp only [Act.put, List.setIfInBounds_toArray, List.set_cons_zero, List.set_cons_succ]
    replace hS := Till.list 6 hS
    refine done_g (by kernel_rfl) (NoPanic.normal ?_) _
    clear hS
    have bvd := bv2.drew
    replace hb1 := hb1.drew
    clear hcw bv2 hsl
    by_cases w0 : x = 0
    · subst w0
      go_wp2_with fail
      refine (treade_any N hN a2 (n1 - 1) (c1 - 1) r _ bvd (by omega)).mono ?_
      rintro e w2 he
      obtain ⟨A2, N2, C2, a3, n3, c3, ok2, rfl, hA⟩ := he.way
      replace hA := hA.all hb1 hN (fun k hk hp => wayT0 HZ.out hN hk hp)
      clear he
      go_wp2_with fail
      go_ret2
      exact hA
    · have n0 : (x == 0) = false := by rw [beq_eq_false_iff_ne]; exact w0
      by_cases w1' : x = 1
      · subst w1'
        go_wp2_with fail
        refine (treadd_any N hN a2 (n1 - 1) (c1 - 1) r _ bvd (by omega)).mono ?_
        rintro e w2 he
        have hA := he.all hb1 hN (fun k hk hp => wayT1 HZ.out hN hk hp)
        clear he
        obtain ⟨A2, N2, C2, ok2, rfl⟩ := hA.shape
        go_wp2_with fail
        go_ret2
        exact hA
      · have n1' : (x == 1) = false := by rw [beq_eq_false_iff_ne]; exact w1'
        have HF := Lib.hid (noT_way (c := (N : Int)) (by omega) HZ.out w0 w1')
        go_wp2_with fail
        go_ret2
        exact .inr ⟨rfl, HF.out, hb1⟩
/-- what Take tells -/
def TakeT (w w' : World) (zs : List Int) (e : Ending) : Prop :=
  (∃ (A : Option Addr) (N C : Nat) (l : List ByteArray), e = .returned (.tuple #[.slice A N C, .int .i64 0]) ∧ N ≤ C ∧ N ≤ 2000 ∧ Few60 l ∧ TV w' A N l ∧ putT l = zs ∧ Below w.heap.size w w') ∨
  (e = .returned (.tuple #[.slice none 0 0, .int .i64 10]) ∧ NoT zs ∧ Below w.heap.size w w')
set_option maxHeartbeats 2000000 in
theorem takeT_any (a : Option Addr) (n c : Nat) (zs : List Int) (w : World) (hv : BV w a n zs) (hc : n ≤ c) :
    Calls Tryz.prog 140 #[.slice a n c] w fun e w' => TakeT w w' zs e := by
  go_enter Tryz.func140, Tryz.ntmps140
  go_wp2_with fail
  refine (tread_any a n c zs _ hv hc).mono ?_
  rintro e w1 he
  rcases he with ⟨A, N, C, l, rfl, hC, hN, hi, hl, hu, hb1⟩ | ⟨rfl, hno, hb1⟩
  · have HU := Lib.hid hu
    have HPB := Lib.hid (putT_bytes (l := l) (by rw [TV.len hl]; omega))
    clear hu
    replace hv := hv.below hb1
    go_wp2_with fail
    refine (putT_any A N C l _ hl hi.sm (by omega)).mono ?_
    rintro e w2 ⟨vp, rfl, op, hb2⟩
    obtain ⟨ap, cp, rfl, -, -, bp, -⟩ := op.bvn HPB.out _ rfl
    replace hv := hv.below hb2
    replace hl := hl.below hb2
    replace hb1 := Below.then hb1 hb2
    clear op hb2
    go_wp2_with fail
    refine (equal_any ap a _ n cp c (putT l) zs _ bp hv).mono ?_
    rintro e w' ⟨rfl, rfl⟩
    clear bp hv
    by_cases hp : putT l = zs
    · rw [decide_eq_true hp]
      have HP := Lib.hid hp
      clear hp
      go_wp2_with fail
      go_ret2
      exact .inl ⟨A, N, C, l, rfl, hC, hN, hi, hl, HP.out, hb1⟩
    · rw [decide_eq_false hp]
      have HF : Hid (NoT zs) := Lib.hid (fun k hk h => hp (by rw [← HU.out k hk h]; exact h))
      clear hp
      go_wp2_with fail
      go_ret2
      exact .inr ⟨rfl, HF.out, hb1⟩
  · have HF := Lib.hid hno
    clear hno
    go_wp2_with fail
    go_ret2
    exact .inr ⟨rfl, HF.out, hb1⟩
theorem TakeT.no {w w' : World} {zs : List Int} {e : Ending} (h : TakeT w w' zs e) (hn : NoT zs) : e = .returned (.tuple #[.slice none 0 0, .int .i64 10]) ∧ Below w.heap.size w w' := by
  rcases h with ⟨A, N, C, l, _, _, hN, hi, hl, hp, _⟩ | ⟨he, _, hb⟩
  · exact absurd hp (hn l ⟨by rw [TV.len hl]; exact hN, hi⟩)
  · exact ⟨he, hb⟩
theorem TakeT.yes {w w' : World} {l : List ByteArray} {e : Ending} (h : TakeT w w' (putT l) e) (hi : OkT l) :
    ∃ (A : Option Addr) (N C : Nat), e = .returned (.tuple #[.slice A N C, .int .i64 0]) ∧ N ≤ 2000 ∧ TV w' A N l ∧ Below w.heap.size w w' := by
  rcases h with ⟨A, N, C, k, he, hc, hN, hk, hv, hp, hb⟩ | ⟨_, hno, _⟩
  · have hkl := TV.len hv
    have := hi.1
    obtain rfl := putT_inj hk.fit hi.fit (by omega) (by omega) hp
    exact ⟨A, N, C, he, hN, hv, hb⟩
  · exact absurd rfl (hno l hi)
end Go.Proofs.YtbfihajgjbpmaaaGreat
