/- Plain facts on columns of texts: how they are put, in both ways, and that they are put in one way. -/
import Derived.Test.YtmoppmifhhnolaaS4p
import Derived.Test.YtmoppmifhhnolaaNm
import Derived.Test.YtmoppmifhhnolaaC
namespace Go.Proofs.Ytmoppmifhhnolaa
set_option linter.unusedVariables false

/-- texts that are not too long to be -/
abbrev Fit63 (l : List ByteArray) : Prop := ∀ s ∈ l, s.size ≤ 9223372036854775807
/-- each text whole -/
def eachL : List ByteArray → List Int
  | [] => []
  | s :: l => pv (s.size : Int) ++ (nums s ++ eachL l)
theorem eachL_app : ∀ a b, eachL (a ++ b) = eachL a ++ eachL b
  | [], b => rfl
  | s :: a, b => by rw [List.cons_append, eachL, eachL, eachL_app a b, List.append_assoc, List.append_assoc]
theorem eachL_snoc (l : List ByteArray) (s : ByteArray) : eachL (l ++ [s]) = eachL l ++ (pv (s.size : Int) ++ nums s) := by
  rw [eachL_app, eachL, eachL, List.append_nil]
theorem eachL_bytes : ∀ l, ∀ z ∈ eachL l, 0 ≤ z ∧ z ≤ 255
  | [], z, hz => by cases hz
  | s :: l, z, hz => by
    rw [eachL] at hz
    rcases List.mem_append.1 hz with hz | hz
    · exact pv_bytes (by omega) z hz
    · rcases List.mem_append.1 hz with hz | hz
      · exact nums_bytes s z hz
      · exact eachL_bytes l z hz
theorem eachL_len : ∀ l, l.length ≤ (eachL l).length
  | [] => Nat.le_refl _
  | s :: l => by
    have := eachL_len l
    have := pv_pos (s.size : Int)
    rw [eachL, List.length_append, List.length_append, List.length_cons]; omega
/-- texts are cut off in one way -/
theorem text_cut {s t : ByteArray} {a b : List Int} (hs : s.size ≤ 9223372036854775807) (ht : t.size ≤ 9223372036854775807) (h : pv (s.size : Int) ++ (nums s ++ a) = pv (t.size : Int) ++ (nums t ++ b)) : s = t ∧ a = b := by
  obtain ⟨e1, e2⟩ := pv_cut (by omega) (by omega) h
  obtain ⟨e3, e4⟩ := List.append_inj e2 (by rw [nums_len, nums_len]; omega)
  exact ⟨nums_inj e3, e4⟩
theorem eachL_cut : ∀ (l k : List ByteArray), Fit63 l → Fit63 k → l.length = k.length → ∀ {r r' : List Int}, eachL l ++ r = eachL k ++ r' → l = k ∧ r = r'
  | [], [], _, _, _, r, r', h => ⟨rfl, h⟩
  | [], _ :: _, _, _, hn, _, _, _ => by simp at hn
  | _ :: _, [], _, _, hn, _, _, _ => by simp at hn
  | s :: l, t :: k, hl, hk, hn, r, r', h => by
    rw [eachL, eachL, List.append_assoc, List.append_assoc, List.append_assoc, List.append_assoc] at h
    obtain ⟨e1, e2⟩ := text_cut (hl s (List.mem_cons_self ..)) (hk t (List.mem_cons_self ..)) h
    obtain ⟨e3, e4⟩ := eachL_cut l k (fun x hx => hl x (List.mem_cons_of_mem _ hx)) (fun x hx => hk x (List.mem_cons_of_mem _ hx)) (by simpa using hn) e2
    exact ⟨by rw [e1, e3], e4⟩
/-- whether a text is there -/
def thereB (ws : List ByteArray) (s : ByteArray) : Bool := ws.any (fun x => decide (x = s))
theorem there_iff {ws : List ByteArray} {s : ByteArray} : thereB ws s = true ↔ s ∈ ws := by
  unfold thereB
  rw [List.any_eq_true]
  exact ⟨fun ⟨x, hx, h⟩ => by rw [← of_decide_eq_true h]; exact hx, fun h => ⟨s, h, decide_eq_true rfl⟩⟩
theorem there_not {ws : List ByteArray} {s : ByteArray} : thereB ws s = false ↔ s ∉ ws := by
  rw [← there_iff]; simp
/-- one more -/
def addW (ws : List ByteArray) (s : ByteArray) : List ByteArray := if thereB ws s = true then ws else ws ++ [s]
/-- the unlike ones, in the order in which they come first, behind those that there were -/
def wordsF : List ByteArray → List ByteArray → List ByteArray
  | ws, [] => ws
  | ws, s :: l => wordsF (addW ws s) l
def words (l : List ByteArray) : List ByteArray := wordsF [] l
theorem wordsF_snoc : ∀ (l ws : List ByteArray) (s : ByteArray), wordsF ws (l ++ [s]) = addW (wordsF ws l) s
  | [], ws, s => rfl
  | x :: l, ws, s => by rw [List.cons_append, wordsF, wordsF, wordsF_snoc l]
theorem words_snoc (l : List ByteArray) (s : ByteArray) : words (l ++ [s]) = addW (words l) s := wordsF_snoc l [] s
theorem addW_mem {ws : List ByteArray} {s x : ByteArray} : x ∈ addW ws s ↔ x ∈ ws ∨ x = s := by
  unfold addW
  by_cases h : s ∈ ws
  · rw [if_pos (there_iff.2 h)]
    exact ⟨.inl, fun h' => h'.elim id (fun e => by rw [e]; exact h)⟩
  · rw [if_neg (by rw [there_iff]; exact h)]; simp
theorem addW_nodup {ws : List ByteArray} {s : ByteArray} (h : ws.Nodup) : (addW ws s).Nodup := by
  unfold addW
  by_cases hs : s ∈ ws
  · rw [if_pos (there_iff.2 hs)]; exact h
  · rw [if_neg (by rw [there_iff]; exact hs)]
    rw [List.nodup_append]
    refine ⟨h, by simp, ?_⟩
    intro a ha b hb hab
    rw [List.mem_singleton] at hb
    exact hs (by rw [← hb, ← hab]; exact ha)
theorem wordsF_mem : ∀ (l ws : List ByteArray) (x : ByteArray), x ∈ wordsF ws l ↔ x ∈ ws ∨ x ∈ l
  | [], ws, x => by simp [wordsF]
  | s :: l, ws, x => by
    rw [wordsF, wordsF_mem l, addW_mem, List.mem_cons, or_assoc]
theorem words_mem (l : List ByteArray) (x : ByteArray) : x ∈ words l ↔ x ∈ l := by rw [words, wordsF_mem]; simp
theorem wordsF_nodup : ∀ (l ws : List ByteArray), ws.Nodup → (wordsF ws l).Nodup
  | [], ws, h => h
  | s :: l, ws, h => wordsF_nodup l _ (addW_nodup h)
theorem words_nodup (l : List ByteArray) : (words l).Nodup := wordsF_nodup l [] List.nodup_nil
theorem wordsF_pre : ∀ (l ws : List ByteArray), ∃ r, wordsF ws l = ws ++ r
  | [], ws => ⟨[], by simp [wordsF]⟩
  | s :: l, ws => by
    obtain ⟨r, hr⟩ := wordsF_pre l (addW ws s)
    show ∃ r, wordsF (addW ws s) l = _
    rw [hr]
    unfold addW
    by_cases h : thereB ws s = true
    · rw [if_pos h]; exact ⟨r, rfl⟩
    · rw [if_neg h]; exact ⟨s :: r, by simp⟩
theorem words_app (a b : List ByteArray) : ∃ r, words (a ++ b) = words a ++ r := by
  have : words (a ++ b) = wordsF (words a) b := by
    unfold words
    generalize ([] : List ByteArray) = ws
    induction a generalizing ws with
    | nil => rfl
    | cons s a ih => rw [List.cons_append, wordsF, wordsF, ih]
  rw [this]
  exact wordsF_pre b _
theorem wordsF_len : ∀ (l ws : List ByteArray), (wordsF ws l).length ≤ ws.length + l.length
  | [], ws => by simp [wordsF]
  | s :: l, ws => by
    rw [wordsF]
    have := wordsF_len l (addW ws s)
    have h2 : (addW ws s).length ≤ ws.length + 1 := by unfold addW; split <;> simp
    rw [List.length_cons]; omega
theorem words_len (l : List ByteArray) : (words l).length ≤ l.length := by have := wordsF_len l []; simpa [words] using this
/-- the place of a text: how many there are, if it is not there -/
def placeB : List ByteArray → ByteArray → Nat
  | [], _ => 0
  | x :: ws, s => if x = s then 0 else placeB ws s + 1
theorem place_app : ∀ {ws : List ByteArray} {s : ByteArray} (r : List ByteArray), s ∈ ws → placeB (ws ++ r) s = placeB ws s
  | x :: ws, s, r, h => by
    rw [List.cons_append, placeB, placeB]
    by_cases hx : x = s
    · rw [if_pos hx, if_pos hx]
    · rw [if_neg hx, if_neg hx, place_app r ((List.mem_cons.1 h).resolve_left (fun e => hx e.symm))]
theorem place_le : ∀ (ws : List ByteArray) (s : ByteArray), placeB ws s ≤ ws.length
  | [], s => Nat.le_refl _
  | x :: ws, s => by
    have := place_le ws s
    rw [placeB, List.length_cons]; split <;> omega
theorem place_get : ∀ {ws : List ByteArray} {s : ByteArray}, s ∈ ws → ws[placeB ws s]? = some s
  | x :: ws, s, h => by
    rw [placeB]
    by_cases hx : x = s
    · rw [if_pos hx, hx]; rfl
    · rw [if_neg hx, List.getElem?_cons_succ]
      exact place_get ((List.mem_cons.1 h).resolve_left (fun e => hx e.symm))
theorem place_lt {ws : List ByteArray} {s : ByteArray} (h : s ∈ ws) : placeB ws s < ws.length := (List.getElem?_eq_some_iff.1 (place_get h)).1
theorem place_not : ∀ {ws : List ByteArray} {s : ByteArray}, s ∉ ws → placeB ws s = ws.length
  | [], s, _ => rfl
  | x :: ws, s, h => by
    have h1 : x ≠ s := fun e => h (by rw [e]; exact List.mem_cons_self ..)
    have h2 : s ∉ ws := fun e => h (List.mem_cons_of_mem _ e)
    rw [placeB, if_neg h1, place_not h2, List.length_cons]
theorem place_inj {ws : List ByteArray} {s t : ByteArray} (hs : s ∈ ws) (ht : t ∈ ws) (h : placeB ws s = placeB ws t) : s = t := by
  have h1 := place_get hs
  rw [h, place_get ht] at h1
  exact (Option.some.inj h1).symm
/-- in a list of unlike ones the place is the place -/
theorem place_at : ∀ {ws : List ByteArray} {s : ByteArray} {i : Nat}, ws.Nodup → ws[i]? = some s → placeB ws s = i
  | [], s, i, _, h => by simp at h
  | x :: ws, s, 0, hn, h => by
    rw [placeB, if_pos (by simpa using h)]
  | x :: ws, s, i + 1, hn, h => by
    rw [List.getElem?_cons_succ] at h
    have hm : s ∈ ws := List.mem_of_getElem? h
    rw [List.nodup_cons] at hn
    rw [placeB, if_neg (fun e => hn.1 (by rw [e]; exact hm)), place_at hn.2 h]
/-- the places of texts -/
def placesL (l : List ByteArray) : List Int := l.map (fun s => (placeB (words l) s : Int))
theorem places_len (l : List ByteArray) : (placesL l).length = l.length := by simp [placesL]
theorem places_snoc (l : List ByteArray) (s : ByteArray) : placesL (l ++ [s]) = placesL l ++ [(placeB (words l) s : Int)] := by
  unfold placesL
  rw [List.map_append, words_snoc]
  congr 1
  · refine List.map_congr_left (fun x hx => ?_)
    have hm : x ∈ words l := (words_mem l x).2 hx
    unfold addW
    split
    · rfl
    · rw [place_app _ hm]
  · rw [List.map_cons, List.map_nil]
    unfold addW
    by_cases h : s ∈ words l
    · rw [if_pos (there_iff.2 h)]
    · rw [if_neg (by rw [there_iff]; exact h), place_not h, place_at (i := (words l).length) _ (by simp)]
      have := words_nodup (l ++ [s])
      rw [words_snoc] at this
      unfold addW at this
      rwa [if_neg (by rw [there_iff]; exact h)] at this
/-- the texts by their places -/
def dictL (l : List ByteArray) : List Int := pv ((words l).length : Int) ++ (eachL (words l) ++ joinN (placesL l))
theorem places_u64 {l : List ByteArray} (h : l.length ≤ 9223372036854775807) : U64s (placesL l) := by
  intro x hx
  obtain ⟨s, hs, rfl⟩ := List.mem_map.1 hx
  have := place_lt ((words_mem l s).2 hs)
  have := words_len l
  omega
theorem joinN_bytes : ∀ {l : List Int}, U64s l → ∀ z ∈ joinN l, 0 ≤ z ∧ z ≤ 255
  | [], _, z, hz => by cases hz
  | x :: l, h, z, hz => by
    rw [joinN] at hz
    rcases List.mem_append.1 hz with hz | hz
    · exact pv_bytes (h x (List.mem_cons_self ..)).1 z hz
    · exact joinN_bytes (fun y hy => h y (List.mem_cons_of_mem _ hy)) z hz
theorem dictL_bytes {l : List ByteArray} (h : l.length ≤ 9223372036854775807) : ∀ z ∈ dictL l, 0 ≤ z ∧ z ≤ 255 := by
  intro z hz
  rcases List.mem_append.1 hz with hz | hz
  · exact pv_bytes (by omega) z hz
  · rcases List.mem_append.1 hz with hz | hz
    · exact eachL_bytes _ z hz
    · exact joinN_bytes (places_u64 h) z hz
/-- numbers are cut off in one way -/
theorem joinN_cut : ∀ (a b : List Int), U64s a → U64s b → a.length = b.length → ∀ {r r' : List Int}, joinN a ++ r = joinN b ++ r' → a = b ∧ r = r'
  | [], [], _, _, _, r, r', h => ⟨rfl, h⟩
  | [], _ :: _, _, _, hn, _, _, _ => by simp at hn
  | _ :: _, [], _, _, hn, _, _, _ => by simp at hn
  | x :: a, y :: b, ha, hb, hn, r, r', h => by
    rw [joinN, joinN, List.append_assoc, List.append_assoc] at h
    obtain ⟨e1, e2⟩ := pv_cut (ha x (List.mem_cons_self ..)) (hb y (List.mem_cons_self ..)) h
    obtain ⟨e3, e4⟩ := joinN_cut a b (fun z hz => ha z (List.mem_cons_of_mem _ hz)) (fun z hz => hb z (List.mem_cons_of_mem _ hz)) (by simpa using hn) e2
    exact ⟨by rw [e1, e3], e4⟩
/-- texts are told by their words and places -/
theorem places_tell {l k : List ByteArray} (hw : words l = words k) (hp : placesL l = placesL k) : l = k := by
  have hl : l.length = k.length := by rw [← places_len l, hp, places_len]
  refine List.ext_getElem hl (fun i h1 h2 => ?_)
  have e : (placesL l)[i]? = (placesL k)[i]? := by rw [hp]
  simp only [placesL, List.getElem?_map, List.getElem?_eq_getElem h1, List.getElem?_eq_getElem h2, Option.map_some, Option.some.injEq] at e
  rw [hw] at e
  exact place_inj (by rw [← hw]; exact (words_mem l _).2 (List.getElem_mem h1)) ((words_mem k _).2 (List.getElem_mem h2)) (by omega)
theorem words_fit {l : List ByteArray} (h : Fit63 l) : Fit63 (words l) := fun s hs => h s ((words_mem l s).1 hs)
theorem dictL_cut {l k : List ByteArray} (hl : Fit63 l) (hk : Fit63 k) (hn : l.length = k.length) (h63 : l.length ≤ 9223372036854775807) {r r' : List Int} (h : dictL l ++ r = dictL k ++ r') : l = k ∧ r = r' := by
  have w1 := words_len l
  have w2 := words_len k
  rw [dictL, dictL] at h
  simp only [List.append_assoc] at h
  obtain ⟨e1, e2⟩ := pv_cut (by omega) (by omega) h
  obtain ⟨e3, e4⟩ := eachL_cut _ _ (words_fit hl) (words_fit hk) (by omega) e2
  obtain ⟨e5, e6⟩ := joinN_cut _ _ (places_u64 h63) (places_u64 (by omega)) (by rw [places_len, places_len]; exact hn) e4
  exact ⟨places_tell e3 e5, e6⟩
/-- which way is the shorter one -/
def shortT (l : List ByteArray) : Bool := decide ((dictL l).length < (eachL l).length)
def bodyT (l : List ByteArray) : List Int := if shortT l = true then 1 :: dictL l else 0 :: eachL l
/-- how texts are put -/
def putT (l : List ByteArray) : List Int := pv (l.length : Int) ++ bodyT l
theorem bodyT_len (l : List ByteArray) : 1 ≤ (bodyT l).length ∧ (bodyT l).length ≤ (eachL l).length + 1 := by
  unfold bodyT
  split
  · rename_i h
    have := of_decide_eq_true h
    simp; omega
  · simp
theorem bodyT_bytes {l : List ByteArray} (h : l.length ≤ 9223372036854775807) : ∀ z ∈ bodyT l, 0 ≤ z ∧ z ≤ 255 := by
  intro z hz
  unfold bodyT at hz
  split at hz
  · rcases List.mem_cons.1 hz with rfl | hz
    · omega
    · exact dictL_bytes h z hz
  · rcases List.mem_cons.1 hz with rfl | hz
    · omega
    · exact eachL_bytes l z hz
theorem putT_bytes {l : List ByteArray} (h : l.length ≤ 9223372036854775807) : ∀ z ∈ putT l, 0 ≤ z ∧ z ≤ 255 := by
  intro z hz
  rcases List.mem_append.1 hz with hz | hz
  · exact pv_bytes (by omega) z hz
  · exact bodyT_bytes h z hz
/-- what was put begins nothing else that was put -/
theorem putT_begin {l k : List ByteArray} (hl : Fit63 l) (hk : Fit63 k) (hn : l.length ≤ 9223372036854775807) (hn' : k.length ≤ 9223372036854775807) {r : List Int} (h : putT l ++ r = putT k) : l = k ∧ r = [] := by
  rw [putT, putT, List.append_assoc] at h
  obtain ⟨e1, e2⟩ := pv_cut (by omega) (by omega) h
  have hnn : l.length = k.length := by omega
  unfold bodyT at e2
  by_cases h1 : shortT l = true
  · by_cases h2 : shortT k = true
    · rw [if_pos h1, if_pos h2, List.cons_append, List.cons.injEq] at e2
      exact dictL_cut hl hk hnn hn (r' := []) (by rw [List.append_nil]; exact e2.2)
    · rw [if_pos h1, if_neg h2, List.cons_append, List.cons.injEq] at e2
      exact absurd e2.1 (by decide)
  · by_cases h2 : shortT k = true
    · rw [if_neg h1, if_pos h2, List.cons_append, List.cons.injEq] at e2
      exact absurd e2.1 (by decide)
    · rw [if_neg h1, if_neg h2, List.cons_append, List.cons.injEq] at e2
      exact eachL_cut l k hl hk hnn (r' := []) (by rw [List.append_nil]; exact e2.2)
/-- texts that may be taken -/
def OkT (l : List ByteArray) : Prop := l.length ≤ 2000 ∧ ∀ s ∈ l, s.size ≤ 60
theorem OkT.fit {l : List ByteArray} (h : OkT l) : Fit63 l := fun s hs => by have := h.2 s hs; omega
/-- the bytes are put of no texts that may be taken -/
def NoT (zs : List Int) : Prop := ∀ l, OkT l → putT l ≠ zs
theorem partT_no {l : List ByteArray} (hl : OkT l) {j : Nat} (hj : j < (putT l).length) : NoT ((putT l).take j) := by
  intro u hu hp
  have h1 := hl.1
  have h2 := hu.1
  have := (putT_begin hu.fit hl.fit (by omega) (by omega) (r := (putT l).drop j) (by rw [hp, List.take_append_drop])).2
  have h := congrArg List.length this
  rw [List.length_drop] at h
  simp only [List.length_nil] at h; omega
theorem moreT_no {l : List ByteArray} (hl : OkT l) {r : List Int} (hr : r ≠ []) : NoT (putT l ++ r) := by
  intro u hu hp
  have h1 := hl.1
  have h2 := hu.1
  exact hr (putT_begin hl.fit hu.fit (by omega) (by omega) hp.symm).2
theorem putT_inj {l k : List ByteArray} (hl : Fit63 l) (hk : Fit63 k) (hn : l.length ≤ 9223372036854775807) (hn' : k.length ≤ 9223372036854775807) (h : putT l = putT k) : l = k :=
  (putT_begin hl hk hn hn' (r := []) (by rw [List.append_nil]; exact h)).1
end Go.Proofs.Ytmoppmifhhnolaa
