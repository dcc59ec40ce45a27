/- Texts that belong together, one behind the other: D8w, D8z, D8ca, D8la, D8lb. -/
import Derived.Test.YtlagmjdldplblaaDiskE
import Derived.Lib.SlBytesConst
/- Contracts of package disk: which names a crash finds. -/
namespace Go.Proofs.Ytlagmjdldplblaa
open Go.ChangeShapes Go.WideShapes Go.ChangeAt Go.RowKit Go.WideMaps Go.Maps
set_option linter.unusedVariables false
set_option maxRecDepth 4000

theorem copy8_any {og : Nat → Or8} {rl : Nat → Nat} {w : World} {F : Nat → Prop} {o : Option Nat} {l : List Nm8} (hk : KMap og rl w F o l) (hs : SortN l) (b : Nat) (hd : w.ownsMap Try.prog 9 eO b 0 (nmD og [])) (hne : ∀ b', o = some b' → b ≠ b') (hl : l.length ≤ 2000) :
    Calls Try.prog 68 #[.map (some b), .map o] w fun e w' => e = .returned (.tuple #[]) ∧ w'.ownsMap Try.prog 9 eO b l.length (nmD og l) ∧ Kp (fun x => x = b) w w' := by
  rcases hk with ⟨rfl, rfl⟩ | ⟨b', rfl, hm, -, -⟩
  · refine (mcopy_nil b w).mono ?_
    rintro e w' ⟨rfl, rfl⟩
    exact ⟨rfl, hd.alloc _, (Kp.refl _ w).alloc _⟩
  · exact mcopy_any og l b b' w hs hd hm (hne b' rfl) hl
theorem chCells_get (og : Nat → Or8) (i : Nat) (hi : i < 4) : ∀ (l : List PC8) (j : Nat) (c : PC8), l[j]? = some c → (chCells og l)[j * 4 + i]? = (chV og c)[i]?
  | [], j, c, h => by simp at h
  | x :: l, 0, c, h => by
    simp only [List.getElem?_cons_zero, Option.some.injEq] at h
    subst h
    show (chV og x ++ chCells og l)[0 * 4 + i]? = _
    rw [List.getElem?_append_left (by show 0 * 4 + i < 4; omega)]
    congr 1; omega
  | x :: l, j + 1, c, h => by
    rw [List.getElem?_cons_succ] at h
    show (chV og x ++ chCells og l)[(j + 1) * 4 + i]? = _
    rw [List.getElem?_append_right (by show 4 ≤ (j + 1) * 4 + i; omega)]
    have e : (j + 1) * 4 + i - (chV og x).length = j * 4 + i := by show (j + 1) * 4 + i - 4 = _; omega
    rw [e]
    exact chCells_get og i hi l j c h
/-- the names with the first j changes -/
def leftP (g : G8) (M : DK) (j : Nat) : List Nm8 := ((g.pc.take j).map toCh).foldl doneN M.kept
theorem leftP_succ {g : G8} {M : DK} {j : Nat} {c : PC8} (h : g.pc[j]? = some c) : leftP g M (j + 1) = doneN (leftP g M j) (toCh c) := by
  unfold leftP
  have hj : j < g.pc.length := by
    rcases Nat.lt_or_ge j g.pc.length with h1 | h1
    · exact h1
    · rw [List.getElem?_eq_none h1] at h; cases h
  have hc : g.pc[j] = c := by rw [List.getElem?_eq_getElem hj] at h; exact Option.some.inj h
  rw [List.take_succ_eq_append_getElem hj, List.map_append, List.foldl_append, hc]; rfl
theorem leftP_len (g : G8) (M : DK) : ∀ j, (leftP g M j).length ≤ M.kept.length + j
  | 0 => Nat.le_refl _
  | j + 1 => by
    cases h : g.pc[j]? with
    | some c => rw [leftP_succ h]; have := doneN_len (leftP g M j) (toCh c); have := leftP_len g M j; omega
    | none =>
      have hj : g.pc.length ≤ j := by
        rcases Nat.lt_or_ge j g.pc.length with h1 | h1
        · rw [List.getElem?_eq_getElem h1] at h; cases h
        · exact h1
      have e : leftP g M (j + 1) = leftP g M j := by unfold leftP; rw [List.take_of_length_le (by omega), List.take_of_length_le hj]
      rw [e]; have := leftP_len g M j; omega
section
variable {g : G8} {k : Nat} {w : World} {F : Nat → Prop} {p : Nat} {M : DK}
theorem leftP_mem (h : DD g k w F p M) {j : Nat} {x : Nm8} (hx : x ∈ leftP g M j) : okName x.1 = true ∧ x.2 < M.files.length ∧ Live M x.2 := by
  rcases foldN_mem _ hx with hx | ⟨d, hd, hx⟩
  · exact ⟨h.pl.kept x hx, h.ok.kplace x hx, .inr (.inl ⟨x, hx, rfl⟩)⟩
  · have hdm : d ∈ M.chs := by
      rw [h.chs.1]
      obtain ⟨c, hc, rfl⟩ := List.mem_map.1 hd
      exact List.mem_map.2 ⟨c, List.mem_of_mem_take hc, rfl⟩
    exact ⟨(h.pl.chs d hdm).2 x hx, h.ok.cplace d hdm x hx, .inr (.inr ⟨d, hdm, x, hx, rfl⟩)⟩
theorem leftP_sort (h : DD g k w F p M) (j : Nat) : SortN (leftP g M j) := foldN_sort _ h.ok.keep
theorem leftP_left (h : DD g k w F p M) (changes : Int) : leftP g M (min changes.toNat M.chs.length) = leftD M changes := by
  unfold leftP leftD
  congr 1
  rw [h.chs.1, List.length_map, List.map_take, List.take_eq_take_iff]
  simp
theorem pc_names (h : DD g k w F p M) {j : Nat} {c : PC8} (hj : g.pc[j]? = some c) : c.frm.size ≤ 1000 ∧ c.to.size ≤ 1000 := by
  have hm : toCh c ∈ M.chs := by rw [h.chs.1]; exact List.mem_map.2 ⟨c, List.mem_of_getElem? hj, rfl⟩
  obtain ⟨h1, h2⟩ := h.pl.chs _ hm
  constructor
  · by_cases e : c.frm = noN
    · rw [e]; decide
    · have := okN_le (h1 c.frm (by unfold toCh; simp [e])); omega
  · by_cases e : c.to = noN
    · rw [e]; decide
    · have := okN_le (h2 (c.to, c.f) (by unfold toCh; simp [e])); simp at this; omega
end
set_option maxHeartbeats 2000000 in
theorem found_any (g : G8) (k : Nat) (w : World) (F : Nat → Prop) (p : Nat) (M : DK) (hk : k ≤ 1000) (h : DD g k w F p M) (n : Nat) (hn : n ≤ g.pc.length) :
    Calls Try.prog 36 #[.pointer (some ⟨p, 0, none⟩), .int .i64 (n : Int)] w fun e w' => e = .returned (.map (some w.heap.size)) ∧ w'.ownsMap Try.prog 9 eO w.heap.size (leftP g M n).length (nmD g.og (leftP g M n)) ∧ Below w.heap.size w w' := by
  have hmk : ∀ wx, (Instr.makeMap 67 none).run Try.prog wx = .ok (.map (some wx.heap.size)) (wx.alloc (.map #[] 0)) := fun wx => run_makeMap ..
  have hB := h.blk
  have hpl := hB.lt
  have c3 : (w.alloc (.map #[] 0)).cell? ⟨p, 3, none⟩ = some (.map g.bK) := (hB.alloc _).cell 3 rfl
  have hplen : g.pc.length ≤ 1000 := by
    have h2 := h.pl.kc
    have h3 := congrArg List.length h.chs.1
    simp only [List.length_map] at h3
    omega
  have hcopy := copy8_any (w := w.alloc (.map #[] 0)) (h.kept.move (F' := F) (rl' := g.rl) (fun b h1 h2 h3 => ⟨Below.heap_alloc _ _ _ h3, h1, h2⟩)) h.ok.keep w.heap.size (World.ownsMap_made w Try.prog 9 eO) (fun b' e => by
    rcases h.kept with ⟨e1, -⟩ | ⟨b1, e1, h1, -, -⟩
    · rw [e1] at e; cases e
    · rw [e1] at e; cases e; have := h1.lt; omega) (by have := h.pl.kc; omega)
  have HC := Lib.hid hcopy
  have HH := Lib.hid h
  clear h hcopy
  go_enter Try.func36, Try.ntmps36
  go_wp2_with fail
  refine HC.out.mono ?_
  rintro e w1 ⟨rfl, hm1, hk1⟩
  have hb1 : Below w.heap.size w w1 := ((Below.refl _ w).alloc (Nat.le_refl _) _).trans (hk1.below (fun b e => by rw [e]; exact Nat.le_refl _) (by simp))
  have hB1 : Bk w1 p _ 71 := hB.below hb1
  obtain ⟨A, C, hA, hCl, -, hsv, -, hA0⟩ := HH.out.chv.1.sv
  have c4 := hB1.cell 4 (v := g.ch) rfl
  rw [hA] at c4
  have HM1 := Lib.hid hm1
  clear hm1 hk1 hB
  have hnC : (n : Int) ≤ (C : Int) := by omega
  have hnCn : n ≤ C := by omega
  go_wp2_with fail
  go_loopw [22] (fun i wr => ∃ (j : Nat), j ≤ n ∧ i = .int .i64 (j : Int) ∧ wr.ownsMap Try.prog 9 eO w.heap.size (leftP g M j).length (nmD g.og (leftP g M j)) ∧ Below w.heap.size w wr) (fun i _ => n - (intOf i).toNat)
  case atStart => exact ⟨0, by omega, rfl, HM1.out, hb1⟩
  case round =>
    clear hB1 c3 c4 hb1
    obtain ⟨j, hj, rfl, hown, hbel⟩ := hrel
    by_cases hlt : j < n
    · have hji : (j : Int) < (n : Int) := by omega
      obtain ⟨s1, s2, s3⟩ := hsv
      rcases s3 with s3 | ⟨b, off, rfl, hc⟩
      · omega
      obtain ⟨cc, hcc⟩ : ∃ cc, g.pc[j]? = some cc := ⟨_, List.getElem?_eq_getElem (show j < g.pc.length by omega)⟩
      have x0 := keepc (hc (j * 4 + 0) (.string cc.frm) (chCells_get g.og 0 (by omega) _ _ _ hcc)) hbel
      have x1 := keepc (hc (j * 4 + 1) (.string cc.to) (chCells_get g.og 1 (by omega) _ _ _ hcc)) hbel
      have x2 := keepc (hc (j * 4 + 2) (.int .i64 (g.og cc.f).1) (chCells_get g.og 2 (by omega) _ _ _ hcc)) hbel
      have x3 := keepc (hc (j * 4 + 3) (.string (g.og cc.f).2) (chCells_get g.og 3 (by omega) _ _ _ hcc)) hbel
      rw [← Nat.add_assoc] at x0 x1 x2 x3
      rw [Nat.add_zero] at x0
      have hlen := leftP_len g M j
      have hkc := HH.out.pl.kc
      have hcl := congrArg List.length HH.out.chs.1
      rw [List.length_map] at hcl
      obtain ⟨hz1, hz2⟩ := pc_names HH.out hcc
      have hdo := do_any g.og cc w.heap.size (leftP g M j) (wr.alloc (.cells #[.string cc.frm, .string cc.to, .int .i64 (g.og cc.f).1, .string (g.og cc.f).2] 97)) (hown.alloc _) (by omega) hz1 hz2 (fun x hx => okN_ne (leftP_mem HH.out hx).1)
      rw [← leftP_succ hcc] at hdo
      have y0 : (wr.alloc (.cells #[.string cc.frm, .string cc.to, .int .i64 (g.og cc.f).1, .string (g.og cc.f).2] 97)).cell? ⟨wr.heap.size, 0, none⟩ = some (.string cc.frm) := (Bk.new wr _ _).cell 0 rfl
      have y1 : (wr.alloc (.cells #[.string cc.frm, .string cc.to, .int .i64 (g.og cc.f).1, .string (g.og cc.f).2] 97)).cell? ⟨wr.heap.size, 1, none⟩ = some (.string cc.to) := (Bk.new wr _ _).cell 1 rfl
      have y2 : (wr.alloc (.cells #[.string cc.frm, .string cc.to, .int .i64 (g.og cc.f).1, .string (g.og cc.f).2] 97)).cell? ⟨wr.heap.size, 2, none⟩ = some (.int .i64 (g.og cc.f).1) := (Bk.new wr _ _).cell 2 rfl
      have y3 : (wr.alloc (.cells #[.string cc.frm, .string cc.to, .int .i64 (g.og cc.f).1, .string (g.og cc.f).2] 97)).cell? ⟨wr.heap.size, 3, none⟩ = some (.string (g.og cc.f).2) := (Bk.new wr _ _).cell 3 rfl
      have hba : Below w.heap.size w (wr.alloc (.cells #[.string cc.frm, .string cc.to, .int .i64 (g.og cc.f).1, .string (g.og cc.f).2] 97)) := hbel.alloc hbel.size _
      have HDO := Lib.hid (And.intro hdo hba)
      clear hdo hba hown hc s1 s2 hcc hlen hkc hcl hz1 hz2 hbel
      go_wp2_with fail
      refine HDO.out.1.mono ?_
      rintro e w2 ⟨rfl, hm2, hk2⟩
      have hb2 := HDO.out.2.trans (hk2.below (base := w.heap.size) (fun b e => by rw [e]; exact Nat.le_refl _) HDO.out.2.size)
      have HF := Lib.hid (And.intro hm2 hb2)
      clear hm2 hb2 hk2 y0 y1 y2 y3 x0 x1 x2 x3
      go_wp2_with fail
      go_roundw
      case rel => exact ⟨j + 1, by omega, by go_num, HF.out⟩
      case measure => simp [intOf]; omega
    · have hji : ¬ (j : Int) < (n : Int) := by omega
      obtain rfl : j = n := by omega
      have HF := Lib.hid (And.intro hown hbel)
      clear hown hbel
      go_wp2_with fail
      go_ret
      exact ⟨rfl, HF.out⟩
end Go.Proofs.Ytlagmjdldplblaa
/- A disk in memory: one file more, of what a crash finds. -/
namespace Go.Proofs.Ytlagmjdldplblaa
open Go.ChangeShapes Go.WideShapes Go.ChangeAt Go.RowKit Go.WideMaps Go.Maps
set_option linter.unusedVariables false
set_option maxRecDepth 4000

theorem insN_last {n : Nm8} : ∀ {l : List Nm8}, (∀ x ∈ l, ltN x.1 n.1 = true) → insN n l = l ++ [n]
  | [], _ => rfl
  | x :: l, h => by
    rw [insN, if_neg (by rw [ltN_anti (h x (List.mem_cons_self ..))]; decide), insN_last (fun y hy => h y (List.mem_cons_of_mem _ hy))]; rfl
theorem withN_last {n : Nm8} {l : List Nm8} (h : ∀ x ∈ l, ltN x.1 n.1 = true) : withN l n = l ++ [n] := by
  unfold withN
  rw [withoutN_all (fun x hx => ltN_ne (h x hx)), insN_last h]
theorem numberN_snoc (n : Nm8) : ∀ (i : Nat) (l : List Nm8), numberN i (l ++ [n]) = numberN i l ++ [(n.1, i + l.length)]
  | _, [] => rfl
  | i, x :: l => by rw [List.cons_append, numberN, numberN_snoc n (i + 1) l, numberN, List.length_cons, show i + 1 + l.length = i + (l.length + 1) by omega]; rfl
def foundOne (files : List Fl8) (tails : List Int) (i : Nat) (f : Nat) : Fl8 :=
  ((files.getD f ([], 0)).1.take ((files.getD f ([], 0)).2 + tailD tails i ((files.getD f ([], 0)).1.length - (files.getD f ([], 0)).2)), (files.getD f ([], 0)).2 + tailD tails i ((files.getD f ([], 0)).1.length - (files.getD f ([], 0)).2))
theorem foundL_snoc (files : List Fl8) (tails : List Int) (n : Nm8) : ∀ (i : Nat) (l : List Nm8), foundL files tails i (l ++ [n]) = foundL files tails i l ++ [foundOne files tails (i + l.length) n.2]
  | _, [] => rfl
  | i, x :: l => by rw [List.cons_append, foundL, foundL_snoc files tails n (i + 1) l, foundL, List.length_cons, show i + 1 + l.length = i + (l.length + 1) by omega]; rfl
section
variable {g : G8} {k : Nat} {w w' : World} {F : Nat → Prop} {p : Nat} {M : DK}
theorem flN_grow2 {f : Nat} {x : Fl8} (h : f < M.files.length) (l : List Nm8) : flN { M with files := M.files ++ [x], names := l } f = flN M f := by simp [flN, List.getD, List.getElem?_append_left h]
theorem flN_new2 {x : Fl8} (l : List Nm8) : flN { M with files := M.files ++ [x], names := l } M.files.length = x := by simp [flN]
/-- one file more, above all others -/
theorem DD.fileAdd (h : DD g k w F p M) (hk : k ≤ 1000) (hkept : M.kept = []) (hchs : M.chs = []) (x : Fl8) (hx : x.2 ≤ x.1.length) (hxl : x.1.length ≤ 1000 * k) (hxb : ∀ z ∈ x.1, 0 ≤ z ∧ z ≤ 255) (o : Or8) (ho0 : 0 ≤ o.1) (ho1 : o.1 ≤ (M.taken : Int)) (ho2 : o.2.size ≤ 1000) (hnew : ∀ f, f < M.files.length → g.og f ≠ o)
    (s : ByteArray) (hs : okName s = true) (hlast : ∀ n ∈ M.names, ltN n.1 s = true) (hnl : M.names.length + 1 ≤ k) (hfs : Maps.size g.DF + 1 ≤ k) {v' : Value} (hv : OW w' 0 v' x.1) (hob : ∀ b, v'.ownBlock = some b → w.heap.size ≤ b ∧ F b)
    (hm : w'.ownsMap Try.prog 83 eF g.bF (Maps.size g.DF + 1) (g.DF.put (kO o) (.held (fileV v' x.2)))) (hn : w'.ownsMap Try.prog 9 eO g.bN (M.names.length + 1) ((nmD g.og M.names).put (kN s) (.held (oV o))))
    (he : ∀ b, F b → b < w.heap.size → g.rl b ≠ 1 → g.rl b ≠ 2 → w'.heap[b]? = w.heap[b]?) :
    DD { g with og := fun j => if j = M.files.length then o else g.og j, sv := fun j => if j = M.files.length then v' else g.sv j, DF := g.DF.put (kO o) (.held (fileV v' x.2)), lv := fun j => g.lv j ∨ j = M.files.length, rl := rlN g w (6 + M.files.length) } k w' F p { M with files := M.files ++ [x], names := M.names ++ [(s, M.files.length)] } := by
  have hw : ∀ (r b : Nat), F b → g.rl b = r → r ≠ 1 → r ≠ 2 → b < w.heap.size → w'.heap[b]? = w.heap[b]? ∧ F b ∧ rlN g w (6 + M.files.length) b = r := fun r b h1 h2 h3 h4 h6 => ⟨he b h1 h6 (by omega) (by omega), h1, by rw [rlN_old h6, h2]⟩
  obtain ⟨p1, p2, p3, p4, p5, p6, p7, p8, p9, p10, p11⟩ := h.pl
  have hog : ∀ j, j < M.files.length → (if j = M.files.length then o else g.og j) = g.og j := fun j hj => if_neg (by omega)
  have hfl : ({ M with files := M.files ++ [x], names := M.names ++ [(s, M.files.length)] } : DK).files.length = M.files.length + 1 := by simp
  have htidy := h.files.1.tidy law8O
  have hko : keyOf Try.prog 83 (oV o) = some (kO o) := keyO ho2 ho0 (by omega)
  have hkl := law8O.key hko
  have hkne : ∀ j, j < M.files.length → kO (g.og j) ≠ kO o := fun j hj e => by
    have h1 := h.key hk hj
    rw [e] at h1
    exact hnew j hj (kO_inj h1 hko)
  have hwn := withN_last (n := (s, M.files.length)) hlast
  have hnm : (nmD g.og M.names).put (kN s) (.held (oV o)) = nmD (fun j => if j = M.files.length then o else g.og j) (M.names ++ [(s, M.files.length)]) := by
    have h1 : nmD g.og M.names = nmD (fun j => if j = M.files.length then o else g.og j) M.names := (nm_congr (fun n hn => hog _ (h.ok.place n hn))).symm
    have h2 : oV o = oV ((fun j => if j = M.files.length then o else g.og j) M.files.length) := by show oV o = oV (if M.files.length = M.files.length then o else g.og M.files.length); rw [if_pos rfl]
    rw [h1, h2, nm_put (fun j => if j = M.files.length then o else g.og j) M.names s M.files.length, hwn]
  have hok : Ok7 { M with files := M.files ++ [x], names := M.names ++ [(s, M.files.length)] } := by
    refine ⟨h.ok.quota, by show SortN (M.names ++ [_]); rw [← hwn]; exact withN_sort h.ok.sort _, h.ok.keep, ?_, ?_, ?_, ?_, ?_⟩
    · intro n hn
      rw [hfl]
      rcases List.mem_append.1 hn with hn | hn
      · have := h.ok.place n hn; omega
      · rw [List.mem_singleton.1 hn]; simp
    · intro n hn; rw [show ({ M with files := M.files ++ [x], names := M.names ++ [(s, M.files.length)] } : DK).kept = [] from hkept] at hn; cases hn
    · intro c hc; rw [show ({ M with files := M.files ++ [x], names := M.names ++ [(s, M.files.length)] } : DK).chs = [] from hchs] at hc; cases hc
    · intro y hy
      rcases List.mem_append.1 hy with hy | hy
      · exact h.ok.safe y hy
      · rw [List.mem_singleton.1 hy]; exact hx
    · intro n hn m hm e
      rcases List.mem_append.1 hn with hn | hn <;> rcases List.mem_append.1 hm with hm | hm
      · exact h.ok.one n hn m hm e
      · rw [List.mem_singleton.1 hm] at e; have := h.ok.place n hn; simp at e; omega
      · rw [List.mem_singleton.1 hn] at e; have := h.ok.place m hm; simp at e; omega
      · rw [List.mem_singleton.1 hn, List.mem_singleton.1 hm]
  refine ⟨hok, ⟨p1, p2, ?_, ?_, p5, ?_, p7, p8, p9, p10, by show (M.names ++ [_]).length ≤ k; simp; omega⟩, ?_, ?_, (hw 0 p h.foot.1 h.foot.2 (by omega) (by omega) h.blk.lt).1.trans h.blk, ⟨h.foot.1, by show rlN g w _ p = 0; rw [rlN_old h.blk.lt, h.foot.2]⟩, ⟨?_, h.names.2.1, ?_⟩, ?_, ?_, ⟨ownsMap_tight hm, h.files.2.1, ?_⟩, ?_, ?_, ?_, ?_, ?_, ?_⟩
  · intro y hy
    rcases List.mem_append.1 hy with hy | hy
    · exact p3 y hy
    · rw [List.mem_singleton.1 hy]; exact hxl
  · intro y hy
    rcases List.mem_append.1 hy with hy | hy
    · exact p4 y hy
    · rw [List.mem_singleton.1 hy]; exact hxb
  · intro n hn
    rcases List.mem_append.1 hn with hn | hn
    · exact p6 n hn
    · rw [List.mem_singleton.1 hn]; exact hs
  · intro j hj
    rw [hfl] at hj
    show 0 ≤ (if j = M.files.length then o else g.og j).1 ∧ (if j = M.files.length then o else g.og j).1 ≤ _ ∧ (if j = M.files.length then o else g.og j).2.size ≤ 1000
    by_cases e : j = M.files.length
    · rw [if_pos e]; exact ⟨ho0, ho1, ho2⟩
    · rw [if_neg e]; exact h.org j (by omega)
  · intro j j' hj hj' e
    rw [hfl] at hj hj'
    have e : (if j = M.files.length then o else g.og j) = (if j' = M.files.length then o else g.og j') := e
    by_cases e1 : j = M.files.length
    · by_cases e2 : j' = M.files.length
      · omega
      · rw [if_pos e1, if_neg e2] at e; exact absurd e.symm (hnew j' (by omega))
    · by_cases e2 : j' = M.files.length
      · rw [if_neg e1, if_pos e2] at e; exact absurd e (hnew j (by omega))
      · rw [if_neg e1, if_neg e2] at e; exact h.inj j j' (by omega) (by omega) e
  · rw [hnm] at hn
    exact ownsMap_len hn
  · show rlN g w _ g.bN = 2; rw [rlN_old h.names.1.lt, h.names.2.2]
  · rcases h.kept.move (F' := F) (w' := w') (rl' := rlN g w (6 + M.files.length)) (fun b h1 h2 h3 => hw 3 b h1 h2 (by omega) (by omega) h3) with hq | ⟨b, hb, hq1, hq2, hq3⟩
    · exact .inl hq
    · refine .inr ⟨b, hb, ?_, hq2, hq3⟩
      show World.ownsMap w' Try.prog 9 eO b M.kept.length (nmD (fun j => if j = M.files.length then o else g.og j) M.kept)
      rw [nm_congr (og := g.og) (fun n hn => by rw [hkept] at hn; cases hn)]
      exact hq1
  · exact h.fails.move (fun b h1 h2 h3 => hw 4 b h1 h2 (by omega) (by omega) h3)
  · show rlN g w _ g.bF = 1; rw [rlN_old h.files.1.lt, h.files.2.2]
  · show Maps.size (g.DF.put _ _) ≤ k
    rw [size_put htidy]
    split <;> omega
  · intro f hf
    rcases hf with ⟨n, hn, e⟩ | ⟨n, hn, -⟩ | ⟨c, hc, -⟩
    · rcases List.mem_append.1 hn with hn | hn
      · exact .inl (h.live f (.inl ⟨n, hn, e⟩))
      · rw [List.mem_singleton.1 hn] at e; exact .inr e.symm
    · rw [show ({ M with files := M.files ++ [x], names := M.names ++ [(s, M.files.length)] } : DK).kept = [] from hkept] at hn; cases hn
    · rw [show ({ M with files := M.files ++ [x], names := M.names ++ [(s, M.files.length)] } : DK).chs = [] from hchs] at hc; cases hc
  · intro j hj
    by_cases e : j = M.files.length
    · subst e
      refine ⟨by rw [hfl]; omega, ?_, ?_, ?_, ?_⟩
      · show Maps.has (g.DF.put _ _) (kO (if M.files.length = M.files.length then o else g.og M.files.length)) = true
        rw [if_pos rfl]; exact has_put_same htidy.isMap hkl _
      · intro z
        show (g.DF.put _ _).atKey (kO (if M.files.length = M.files.length then o else g.og M.files.length)) z = .held (fileV (if M.files.length = M.files.length then v' else g.sv M.files.length) _)
        rw [if_pos rfl, if_pos rfl, flN_new2]; exact atKey_put_same htidy.isMap hkl _ z
      · show OW w' 0 (if M.files.length = M.files.length then v' else g.sv M.files.length) _
        rw [if_pos rfl, flN_new2]; exact hv
      · intro b hb
        have hb' : (if M.files.length = M.files.length then v' else g.sv M.files.length).ownBlock = some b := hb
        rw [if_pos rfl] at hb'
        exact ⟨(hob b hb').2, rlN_new (hob b hb').1⟩
    · have hx' := h.each j (hj.resolve_right e)
      have hne := hkne j hx'.place
      refine ⟨by rw [hfl]; have := hx'.place; omega, ?_, ?_, ?_, ?_⟩
      · show Maps.has (g.DF.put _ _) (kO (if j = M.files.length then o else g.og j)) = true
        rw [if_neg e]; exact (has_put_other hne _).trans hx'.has
      · intro z
        show (g.DF.put _ _).atKey (kO (if j = M.files.length then o else g.og j)) z = .held (fileV (if j = M.files.length then v' else g.sv j) _)
        rw [if_neg e, if_neg e, flN_grow2 hx'.place]; exact (atKey_put_other hne _ z).trans (hx'.at_ z)
      · show OW w' 0 (if j = M.files.length then v' else g.sv j) _
        rw [if_neg e, flN_grow2 hx'.place]
        exact hx'.data.same8 (fun b hb hl => (hw _ b (hx'.own b hb).1 (hx'.own b hb).2 (by omega) (by omega) hl).1)
      · intro b hb
        have hb' : (if j = M.files.length then v' else g.sv j).ownBlock = some b := hb
        rw [if_neg e] at hb'
        exact (hw _ b (hx'.own b hb').1 (hx'.own b hb').2 (by omega) (by omega) (hx'.data.low0 hb')).2
  · have hpc : g.pc = [] := by
      have h3 := h.chs.1
      rw [hchs] at h3
      exact List.map_eq_nil_iff.1 h3.symm
    exact ⟨h.chs.1, fun c hc => by rw [show ({ g with og := fun j => if j = M.files.length then o else g.og j, sv := fun j => if j = M.files.length then v' else g.sv j, DF := g.DF.put (kO o) (.held (fileV v' x.2)), lv := fun j => g.lv j ∨ j = M.files.length, rl := rlN g w (6 + M.files.length) } : G8).pc = [] from hpc] at hc; cases hc⟩
  · have hpc : g.pc = [] := by
      have h3 := h.chs.1
      rw [hchs] at h3
      exact List.map_eq_nil_iff.1 h3.symm
    refine ⟨?_, fun b hb => (hw 5 b (h.chv.2 b hb).1 (h.chv.2 b hb).2 (by omega) (by omega) (h.chv.1.low0 hb)).2⟩
    have h4 := h.chv.1.same8 (w' := w') (fun b hb hl => (hw 5 b (h.chv.2 b hb).1 (h.chv.2 b hb).2 (by omega) (by omega) hl).1)
    show OS 4 w' 0 g.ch g.pc.length (chCells _ g.pc)
    rw [hpc] at h4 ⊢
    exact h4
  · intro l hl
    by_cases e : l = kO o
    · refine ⟨M.files.length, .inr rfl, ?_⟩
      show l = kO (if M.files.length = M.files.length then o else g.og M.files.length)
      rw [if_pos rfl]; exact e
    · obtain ⟨f, hf, he⟩ := h.full l ((has_put_other e _).symm.trans hl)
      refine ⟨f, .inl hf, ?_⟩
      show l = kO (if f = M.files.length then o else g.og f)
      rw [if_neg (by have := (h.each f hf).place; omega)]; exact he
end
end Go.Proofs.Ytlagmjdldplblaa
/- Contracts of package disk: Crash. -/
namespace Go.Proofs.Ytlagmjdldplblaa
open Go.ChangeShapes Go.WideShapes Go.ChangeAt Go.RowKit Go.WideMaps Go.Maps
set_option linter.unusedVariables false
set_option maxRecDepth 4000

theorem OW.low8 {w : World} {base : Nat} {v : Value} {bs : List Int} {b : Nat} (h : OW w base v bs) (hb : v.ownBlock = some b) : base ≤ b := by
  rcases h with ⟨rfl, _⟩ | ⟨g, cap, cur, T, rfl, hg, _⟩
  · cases hb
  · cases hb; exact hg
/-- what is found, so far -/
def bldD (M : DK) (ts : List Int) (l : List Nm8) : DK := ⟨M.quota, 0, foundL M.files ts 0 l, numberN 0 l, [], [], [], none, false⟩
theorem bld_snoc (M : DK) (ts : List Int) (l : List Nm8) (n : Nm8) : bldD M ts (l ++ [n]) = { bldD M ts l with files := (bldD M ts l).files ++ [foundOne M.files ts l.length n.2], names := (bldD M ts l).names ++ [(n.1, (bldD M ts l).files.length)] } := by
  unfold bldD
  simp only [foundL_snoc, numberN_snoc, Nat.zero_add, foundL_len]
theorem nm_look0 {w : World} {b n : Nat} {og : Nat → Or8} {l : List Nm8} (h : w.ownsMap Try.prog 9 eO b n (nmD og l)) {s : ByteArray} (hs : s.size ≤ 1000) {f : Nat} (hf : findN l s = some f) :
    (Instr.lookup 67 (.map (some b)) (.string s) false).run Try.prog w = .ok (oV (og f)) w := by
  obtain ⟨v, ps, hrun, hv⟩ := World.ownsMap.lookup h law8N Try.underlying67 (zero8O w) (eO_mk (0, noN)) (keyN (s := s) (by unfold maxLen; omega))
  obtain ⟨o, rfl, hy⟩ := eO_inv hv
  rw [nm_at, hf] at hy
  have hy := congrArg Prod.fst hy
  simp only [DataW.held.injEq] at hy
  rw [hrun, hy]
/-- the loop's relation -/
structure CR (ts : List Int) (M : DK) (l : List Nm8) (k : Nat) (F0 : Nat → Prop) (q : Nat) (ws wr : World) (j : Nat) (gj : G8) : Prop where
  le : j ≤ l.length
  dd : DD gj k wr F0 q (bldD M ts (l.take j))
  sz : Maps.size gj.DF ≤ j
  og : ∀ f, f < j → gj.og f = (0, (l.getD f (noN, 0)).1)
  kp : Kp F0 ws wr
theorem sort_getD : ∀ {l : List Nm8}, SortN l → ∀ {i j : Nat}, i < j → j < l.length → ltN (l.getD i (noN, 0)).1 (l.getD j (noN, 0)).1 = true
  | [], _, _, _, _, hj => by simp at hj
  | n :: l, h, 0, j + 1, _, hj => by
    have hj' : j < l.length := by simpa using hj
    simp only [List.getD_cons_zero, List.getD_cons_succ]
    rw [List.getD_eq_getElem?_getD, List.getElem?_eq_getElem hj']
    exact h.1 _ (List.getElem_mem hj')
  | n :: l, h, i + 1, j + 1, hij, hj => by
    simp only [List.getD_cons_succ]
    exact sort_getD h.2 (by omega) (by simpa using hj)
theorem take_snocN (l : List Nm8) (j : Nat) (h : j < l.length) : l.take (j + 1) = l.take j ++ [l.getD j (noN, 0)] := by
  rw [List.take_succ_eq_append_getElem h]; simp [List.getD, h]
theorem numberN_first : ∀ (i : Nat) (l : List Nm8) (x : Nm8), x ∈ numberN i l → ∃ n ∈ l, n.1 = x.1
  | _, [], _, h => by cases h
  | i, n :: l, x, h => by
    rw [numberN] at h
    rcases List.mem_cons.1 h with rfl | h
    · exact ⟨n, List.mem_cons_self .., rfl⟩
    · obtain ⟨m, hm, e⟩ := numberN_first (i + 1) l x h
      exact ⟨m, List.mem_cons_of_mem _ hm, e⟩
set_option maxHeartbeats 4000000 in
theorem crash_any (g : G8) (k : Nat) (w : World) (F : Nat → Prop) (p : Nat) (M : DK) (hk : k ≤ 900) (h : DD g k w F p M) (changes : Int) (A : Option Addr) (n c : Nat) (ts : List Int) (hv : IV w A n ts) (hn : n ≤ 1000) (hr : ∀ x ∈ ts, -9223372036854775808 ≤ x ∧ x ≤ maxI) :
    Calls Try.prog 12 #[.pointer (some ⟨p, 0, none⟩), .int .i64 changes, .slice A n c] w fun e w' => ∃ g' q, e = .returned (.pointer (some ⟨q, 0, none⟩)) ∧ DD g' k w' (fun b => w.heap.size ≤ b) q (crashD M changes ts) ∧ Below w.heap.size w w' := by
  have hB := h.blk
  obtain ⟨A4, C4, hA4⟩ := h.chv.1.shape
  have c4 := hB.cell 4 (v := g.ch) rfl
  rw [hA4] at c4
  have hpc : g.pc.length = M.chs.length := by have := congrArg List.length h.chs.1; simpa using this.symm
  have hmin : min (max changes 0) (g.pc.length : Int) = ((min changes.toNat M.chs.length : Nat) : Int) := by rw [hpc]; omega
  have hfd := found_any g k w F p M (by omega) h (min changes.toNat M.chs.length) (by omega)
  have hleft := leftP_left h changes
  rw [hleft] at hfd
  have hkc := h.pl.kc
  have hll : (leftD M changes).length ≤ k := by
    rw [← hleft]; have := leftP_len g M (min changes.toNat M.chs.length); omega
  have hls : SortN (leftD M changes) := by rw [← hleft]; exact leftP_sort h _
  have hlm : ∀ x ∈ leftD M changes, okName x.1 = true ∧ x.2 < M.files.length ∧ Live M x.2 := fun x hx => by rw [← hleft] at hx; exact leftP_mem h hx
  have HFD := Lib.hid hfd
  have HH := Lib.hid h
  have HL := Lib.hid (And.intro hls (And.intro hlm hpc))
  clear h hfd hleft hls hlm hkc
  generalize hld : leftD M changes = l at *
  have hcr : crashD M changes ts = keptD (bldD M ts l) := by unfold crashD keptD bldD; rw [hld]
  have HCR := Lib.hid hcr
  clear hld hcr hpc
  go_enter Try.func12, Try.ntmps12
  go_wp2_with fail
  refine HFD.out.mono ?_
  rintro e w1 ⟨rfl, hm1, hb1⟩
  have hB1 : Bk w1 p _ 71 := hB.below hb1
  have c0 := hB1.cell 0 (v := .int .i64 M.quota) rfl
  have HM1 := Lib.hid hm1
  clear hm1
  go_wp2_with fail
  refine (new_any w1 M.quota HH.out.pl.quota).mono ?_
  rintro e w2 ⟨g2, q, rfl, hd2, hb2⟩
  have HD2 := Lib.hid hd2
  clear hd2 c0
  go_wp2_with fail
  refine (callsIn_wide.1 (Try.maps_Keys_38 (some w.heap.size) w2)).mono ?_
  rintro e w3 ⟨rfl, hw3⟩
  have hm2 := ownsMap_same HM1.out (hb2.block _ HM1.out.lt)
  have hso := sorted_any w2 HL.out.1 hm2 (by omega)
  rw [← hw3] at hso
  have HW3 := Lib.hid hw3
  have HSO := Lib.hid hso
  clear hw3 hm2 hso
  go_wp2_with fail
  refine HSO.out.mono ?_
  rintro e ws ⟨v, rfl, hvo, hbs⟩
  have HV := Lib.hid hvo
  obtain ⟨A5, C5, rfl, hC5, -, htv, hlo, -⟩ := hvo.sv
  have HTV := Lib.hid (And.intro htv hlo)
  clear hvo htv hlo
  go_wp2_with fail
  have hs12 := hb2.size
  have hs2s := hbs.size
  have hfl1 := HM1.out.lt
  have hnew0 : newD M.quota = bldD M ts [] := by
    unfold newD bldD
    have := HH.out.ok.quota
    rw [show max M.quota 0 = M.quota by omega]; rfl
  have hst : CR ts M l k (fun b => (w1.heap.size ≤ b ∧ b < w2.heap.size) ∨ ws.heap.size ≤ b) q ws ws 0 g2 := by
    refine ⟨by omega, ?_, ?_, (fun f hf => by omega), Kp.refl _ _⟩
    · have h1 := HD2.out
      rw [hnew0] at h1
      exact (h1.move (w' := ws) (F' := fun b => (w1.heap.size ≤ b ∧ b < w2.heap.size) ∨ ws.heap.size ≤ b) g2.rl (fun b hb hl => ⟨hbs.block b hl, .inl ⟨hb, hl⟩, rfl⟩)).more (Nat.zero_le _)
    · exact HD2.out.fsize
  have hold1 : ∀ b, b < w1.heap.size → ws.heap[b]? = w1.heap[b]? := fun b hb => (hbs.block b (by omega)).trans (hb2.block b hb)
  clear hB hB1 c4 hmin hA4 hnew0
  go_loopw [33] (fun i wr => ∃ (j : Nat) (gj : G8), i = .int .i64 (j : Int) ∧ CR ts M l k (fun b => (w1.heap.size ≤ b ∧ b < w2.heap.size) ∨ ws.heap.size ≤ b) q ws wr j gj) (fun i _ => l.length - (intOf i).toNat)
  case atStart => exact ⟨0, g2, rfl, hst⟩
  case round =>
    clear hst
    obtain ⟨j, gj, rfl, hcr⟩ := hrel
    have hjle := hcr.le
    have hF0 : ∀ b, wr.heap.size ≤ b → (w1.heap.size ≤ b ∧ b < w2.heap.size) ∨ ws.heap.size ≤ b := fun b hb => .inr (Nat.le_trans hcr.kp.size hb)
    by_cases hlt : j < l.length
    · have hji : (j : Int) < (l.length : Int) := by omega
      have hold : ∀ b, b < w1.heap.size → wr.heap[b]? = w1.heap[b]? := fun b hb => (hcr.kp.block b (by omega) (fun e => by rcases e with e | e <;> omega)).trans (hold1 b hb)
      have hold0 : ∀ b, b < w.heap.size → wr.heap[b]? = w.heap[b]? := fun b hb => (hold b (by omega)).trans (hb1.block b hb)
      have hM : DD g k wr F p M := HH.out.same (fun b _ hb => hold0 b hb)
      have hfm := ownsMap_same HM1.out (hold _ hfl1)
      have hIV : IV wr A n ts := hv.other (fun x hx hl => hold0 _ hl)
      obtain ⟨htv, hlo⟩ := HTV.out
      have htr : TV wr A5 l.length (l.map (fun n => n.1)) := SV.other htv (fun x hx hl => hcr.kp.block _ hl (fun e => by have := hlo x hx; rcases e with e | e <;> omega))
      obtain ⟨b5, off5, rfl, hc5⟩ := TV.at htr j hlt
      have hmem : l.getD j (noN, 0) ∈ l := by
        rw [List.getD_eq_getElem?_getD, List.getElem?_eq_getElem hlt]; exact List.getElem_mem hlt
      have hsE : (l.map (fun n => n.1)).getD j ⟨#[]⟩ = (l.getD j (noN, 0)).1 := by simp [List.getD, hlt]
      rw [hsE] at hc5
      have htk := take_snocN l j hlt
      have hfnd := findN_of HL.out.1 hmem
      obtain ⟨hokn, hpl, hlive⟩ := HL.out.2.1 _ hmem
      have hlast0 : ∀ i, i < j → ltN (l.getD i (noN, 0)).1 (l.getD j (noN, 0)).1 = true := fun i hi => sort_getD HL.out.1 hi hlt
      generalize l.getD j (noN, 0) = sn at *
      obtain ⟨s, f⟩ := sn
      simp only [] at hc5 hfnd hokn hpl hlive hlast0
      have hlv := hM.live f hlive
      have hx := hM.each f hlv
      obtain ⟨a, ca, hsv, hlc, -, hbv, -⟩ := hx.data.bvn (hM.pl.bytes _ (hM.mem hx.place)) _ rfl
      have hsf := hM.ok.fl f
      have hdl := hM.pl.len _ (hM.mem hx.place)
      have hby := hM.pl.bytes _ (hM.mem hx.place)
      have hfo : foundOne M.files ts j f = ((flN M f).1.take ((flN M f).2 + tailD ts j ((flN M f).1.length - (flN M f).2)), (flN M f).2 + tailD ts j ((flN M f).1.length - (flN M f).2)) := rfl
      have htl := tailD_le ts j ((flN M f).1.length - (flN M f).2)
      have hlk1 := fun wq (hq : Old wr wq) => nm_look0 (ownsMap_same hfm (hq.block _ hfm.lt)) (s := s) (by have := okN_le hokn; omega) hfnd
      have hlk2 := fun wq (hq : Old wr wq) => fm_look (hM.old hq) (by omega) hlv
      rw [hsv] at hlk2
      generalize hoG : g.og f = oF at hlk1 hlk2
      unfold oV at hlk1
      unfold oV fileV at hlk2
      have q1 := hM.blk.cell 1 (v := .map (some g.bF)) rfl
      generalize hD : (flN M f).1 = data at *
      generalize hS : (flN M f).2 = sf at *
      have htail := fun wq (hq : Old wr wq) => tail_any A n c ts j (data.length - sf) wq (hIV.other (fun x hx hl => hq.block _ hl)) hn (by omega) (by omega) hr
      generalize htE : tailD ts j (data.length - sf) = t at *
      obtain ⟨m, hmE⟩ : ∃ m, data.length - sf = m := ⟨_, rfl⟩
      obtain ⟨K, hKE⟩ : ∃ K, sf + t = K := ⟨_, rfl⟩
      have hws : IntKind.i64.wrap ((data.length : Int) - (sf : Int)) = (m : Int) := by rw [IntKind.wrap_i64]; omega
      have hwa : IntKind.i64.wrap ((sf : Int) + (t : Int)) = (K : Int) := by rw [IntKind.wrap_i64]; omega
      rw [hmE] at htail
      rw [hKE] at hfo
      have hkK : K ≤ data.length := by omega
      have hkC : K ≤ ca := by omega
      have hkCi : (K : Int) ≤ (ca : Int) := by omega
      have hk0 : (0 : Int) ≤ (K : Int) := by omega
      have HM := Lib.hid hM
      have HCJ := Lib.hid hcr
      have HBV := Lib.hid (And.intro hbv hby)
      have HFO := Lib.hid hfo
      have HTK := Lib.hid htk
      have HTAIL := Lib.hid htail
      clear hmE hKE htl hM hcr hbv hfo htk htail hfm hIV htv htr hsv hx hlive hfnd hoG hD hS htE hold hold0 hmem hlo hby hsE
      go_wp2_with fail
      refine wp_region_noPanic ?_
      refine region_g 9 (Old wr) (by kernel_rfl) ((Old.refl wr).drew) (fun hS => ?_)
      refine take_w (i := 0) (v := ?_) (some 38) rfl (by kernel_rfl) rfl (fun _ _ _ h => h) (Or.inl ⟨by rfl, ?_⟩) hS ?_
      rotate_left
      · (intro wq hq; go_simp); first | done | with_reducible rfl
      try simp only [Act.put, List.setIfInBounds_toArray, List.set_cons_zero, List.set_cons_succ]
      replace hS := Till.list 0 hS
      refine take_w (i := 4) (v := ?_) (some 42) rfl (by kernel_rfl) rfl (fun _ _ _ h => h) (Or.inl ⟨by rfl, ?_⟩) hS ?_
      rotate_left
      · (intro wq hq; go_simp); first | done | with_reducible rfl
      try simp only [Act.put, List.setIfInBounds_toArray, List.set_cons_zero, List.set_cons_succ]
      replace hS := Till.list 4 hS
      refine take_w (i := 5) (v := ?_) (some 43) rfl (by kernel_rfl) rfl (fun _ _ _ h => h) (Or.inl ⟨by rfl, ?_⟩) hS ?_
      rotate_left
      · (intro wq hq; go_simp); first | done | with_reducible rfl
      try simp only [Act.put, List.setIfInBounds_toArray, List.set_cons_zero, List.set_cons_succ]
      replace hS := Till.list 5 hS
      refine take_w (i := 1) (v := ?_) (some 39) rfl (by kernel_rfl) rfl (fun _ _ _ h => h) (Or.inl ⟨by rfl, ?_⟩) hS ?_
      rotate_left
      · (intro wq hq; go_simp); first | done | with_reducible rfl
      try simp only [Act.put, List.setIfInBounds_toArray, List.set_cons_zero, List.set_cons_succ]
      replace hS := Till.list 1 hS
      refine take_w (i := 2) (v := ?_) (some 40) rfl (by kernel_rfl) rfl (fun _ _ _ h => h) (Or.inl ⟨by rfl, ?_⟩) hS ?_
      rotate_left
      · (intro wq hq; go_simp); first | done | with_reducible rfl
      try simp only [Act.put, List.setIfInBounds_toArray, List.set_cons_zero, List.set_cons_succ]
      replace hS := Till.list 2 hS
      refine take_g (i := 3) (v := ?_) [3] (some 41) rfl (by kernel_rfl) rfl (fun _ _ _ h => h) (Or.inl ⟨by rfl, ?_⟩) hS ?_
      rotate_left
      · (intro wq hq; have r1 := hq.cell q1; go_simp); first | done | with_reducible rfl
      try simp only [Act.put, List.setIfInBounds_toArray, List.set_cons_zero, List.set_cons_succ]
      replace hS := Till.list 3 hS
      refine take_g (i := 6) (v := .agg #[.int .i64 oF.1, .string oF.2]) [6] (some 44) rfl (by kernel_rfl) rfl (fun _ _ _ h => h) (Or.inl ⟨by rfl, ?_⟩) hS ?_
      · (intro wq hq; (have r0 := hlk1 wq hq; go_simp))
      try simp only [Act.put, List.setIfInBounds_toArray, List.set_cons_zero, List.set_cons_succ]
      replace hS := Till.list 6 hS
      refine take_g (i := 7) (v := .agg #[.slice a data.length ca, .int .i64 (sf : Int)]) [7] (some 45) rfl (by kernel_rfl) rfl (fun _ _ _ h => h) (Or.inl ⟨by rfl, ?_⟩) hS ?_
      · (intro wq hq; (have r0 := hlk2 wq hq; go_simp))
      try simp only [Act.put, List.setIfInBounds_toArray, List.set_cons_zero, List.set_cons_succ]
      replace hS := Till.list 7 hS
      refine ready_g (rs := [8]) (by kernel_rfl) (by simp) ?_
      refine AllReadyG.cons rfl (fun Kont hK => ?_) AllReadyG.nil
      go_simp
      refine hK.out _ _ (Or.inr (((hS.get (by kernel_rfl)).alloc _))) (fun hS0 => ?_)
      clear hK Kont
      try simp only [Act.put, List.setIfInBounds_toArray, List.set_cons_zero, List.set_cons_succ]
      clear hS
      have hS := hS0
      clear hS0
      refine ready_g (rs := [9]) (by kernel_rfl) (by simp) ?_
      refine AllReadyG.cons rfl (fun Kont hK => ?_) AllReadyG.nil
      go_simp
      refine hK.out _ _ (Or.inl (by kernel_rfl)) (fun hS0 => ?_)
      clear hK Kont
      try simp only [Act.put, List.setIfInBounds_toArray, List.set_cons_zero, List.set_cons_succ]
      clear hS
      have hS := hS0
      clear hS0
      refine done_g (by kernel_rfl) (NoPanic.normal ?_) _
      clear hS
      have hO6 : Old wr (wr.alloc (.cells #[.slice a data.length ca, .int .i64 (sf : Int)] 85)).drew := ((Old.refl wr).alloc _).drew
      have hN6 : Bk (wr.alloc (.cells #[.slice a data.length ca, .int .i64 (sf : Int)] 85)).drew wr.heap.size _ 85 := Bk.new wr #[.slice a data.length ca, .int .i64 (sf : Int)] 85
      have hK6 : Kp (fun _ => False) wr (wr.alloc (.cells #[.slice a data.length ca, .int .i64 (sf : Int)] 85)).drew := ((Kp.refl _ wr).alloc _).drew
      have hs6 : (wr.alloc (.cells #[.slice a data.length ca, .int .i64 (sf : Int)] 85)).drew.heap.size = wr.heap.size + 1 := by show (wr.heap.push _).size = _; simp
      have HS6 := Lib.hid hs6
      clear hlk1 hlk2 hs6
      go_wp2_with fail
      generalize (wr.alloc (.cells #[.slice a data.length ca, .int .i64 (sf : Int)] 85)).drew = w6 at *
      have x0 := hN6.cell 0 (v := .slice a data.length ca) rfl
      have x1 := hN6.cell 1 (v := .int .i64 (sf : Int)) rfl
      refine wp_region_noPanic ?_
      refine region_g 13 (Old w6) (by kernel_rfl) ((Old.refl w6).drew) (fun hS => ?_)
      refine take_w (i := 0) (v := ?_) (some 46) rfl (by kernel_rfl) rfl (fun _ _ _ h => h) (Or.inl ⟨by rfl, ?_⟩) hS ?_
      rotate_left
      · (intro wq hq; go_simp); first | done | with_reducible rfl
      try simp only [Act.put, List.setIfInBounds_toArray, List.set_cons_zero, List.set_cons_succ]
      replace hS := Till.list 0 hS
      refine take_w (i := 2) (v := ?_) (some 48) rfl (by kernel_rfl) rfl (fun _ _ _ h => h) (Or.inl ⟨by rfl, ?_⟩) hS ?_
      rotate_left
      · (intro wq hq; go_simp); first | done | with_reducible rfl
      try simp only [Act.put, List.setIfInBounds_toArray, List.set_cons_zero, List.set_cons_succ]
      replace hS := Till.list 2 hS
      refine take_w (i := 3) (v := ?_) (some 49) rfl (by kernel_rfl) rfl (fun _ _ _ h => h) (Or.inl ⟨by rfl, ?_⟩) hS ?_
      rotate_left
      · (intro wq hq; go_simp); first | done | with_reducible rfl
      try simp only [Act.put, List.setIfInBounds_toArray, List.set_cons_zero, List.set_cons_succ]
      replace hS := Till.list 3 hS
      refine take_w (i := 4) (v := ?_) (some 50) rfl (by kernel_rfl) rfl (fun _ _ _ h => h) (Or.inl ⟨by rfl, ?_⟩) hS ?_
      rotate_left
      · (intro wq hq; go_simp); first | done | with_reducible rfl
      try simp only [Act.put, List.setIfInBounds_toArray, List.set_cons_zero, List.set_cons_succ]
      replace hS := Till.list 4 hS
      refine take_w (i := 7) (v := ?_) (some 53) rfl (by kernel_rfl) rfl (fun _ _ _ h => h) (Or.inl ⟨by rfl, ?_⟩) hS ?_
      rotate_left
      · (intro wq hq; go_simp); first | done | with_reducible rfl
      try simp only [Act.put, List.setIfInBounds_toArray, List.set_cons_zero, List.set_cons_succ]
      replace hS := Till.list 7 hS
      refine take_n (i := 1) (v := ?_) (some 47) rfl (by kernel_rfl) rfl (fun _ _ _ h => h) (Or.inl ⟨by rfl, ?_⟩) hS ?_
      rotate_left
      · (intro wq hq; have r0 := hq.cell x0; have r1 := hq.cell x1; go_simp); first | done | with_reducible rfl
      try simp only [Act.put, List.setIfInBounds_toArray, List.set_cons_zero, List.set_cons_succ]
      replace hS := Till.list 1 hS
      refine take_n (i := 5) (v := ?_) (some 51) rfl (by kernel_rfl) rfl (fun _ _ _ h => h) (Or.inl ⟨by rfl, ?_⟩) hS ?_
      rotate_left
      · (intro wq hq; have r0 := hq.cell x0; have r1 := hq.cell x1; go_simp); first | done | with_reducible rfl
      try simp only [Act.put, List.setIfInBounds_toArray, List.set_cons_zero, List.set_cons_succ]
      replace hS := Till.list 5 hS
      refine take_n (i := 8) (v := ?_) (some 54) rfl (by kernel_rfl) rfl (fun _ _ _ h => h) (Or.inl ⟨by rfl, ?_⟩) hS ?_
      rotate_left
      · (intro wq hq; have r0 := hq.cell x0; have r1 := hq.cell x1; go_simp); first | done | with_reducible rfl
      try simp only [Act.put, List.setIfInBounds_toArray, List.set_cons_zero, List.set_cons_succ]
      replace hS := Till.list 8 hS
      refine take_w (i := 6) (v := ?_) (some 52) rfl (by kernel_rfl) rfl (fun _ _ _ h => h) (Or.inl ⟨by rfl, ?_⟩) hS ?_
      rotate_left
      · (intro wq hq; go_simp); first | done | with_reducible rfl
      try simp only [Act.put, List.setIfInBounds_toArray, List.set_cons_zero, List.set_cons_succ]
      replace hS := Till.list 6 hS
      refine take_w (i := 9) (v := ?_) (some 55) rfl (by kernel_rfl) rfl (fun _ _ _ h => h) (Or.inl ⟨by rfl, ?_⟩) hS ?_
      rotate_left
      · (intro wq hq; go_simp); first | done | with_reducible rfl
      try simp only [Act.put, List.setIfInBounds_toArray, List.set_cons_zero, List.set_cons_succ]
      replace hS := Till.list 9 hS
      refine ready_g (rs := [10]) (by kernel_rfl) (by simp) ?_
      refine AllReadyG.cons rfl (fun Kont hK => ?_) AllReadyG.nil
      go_simp
      refine (HTAIL.out _ hO6.drew).mono ?_
      rintro e w7 ⟨rfl, hw7⟩
      refine hK.out _ _ (Or.inr ((by rw [hw7]; exact hS.get (by kernel_rfl)))) (fun hS0 => ?_)
      clear hK Kont
      try simp only [Act.put, List.setIfInBounds_toArray, List.set_cons_zero, List.set_cons_succ]
      clear hS
      have hS := hS0
      clear hS0
      subst hw7
      refine take_w (i := 11) (v := ?_) (some 57) rfl (by kernel_rfl) rfl (fun _ _ _ h => h) (Or.inl ⟨by rfl, ?_⟩) hS ?_
      rotate_left
      · (intro wq hq; go_simp); first | done | with_reducible rfl
      try simp only [Act.put, List.setIfInBounds_toArray, List.set_cons_zero, List.set_cons_succ]
      replace hS := Till.list 11 hS
      refine take_w (i := 12) (v := ?_) (some 12) rfl (by kernel_rfl) rfl (fun _ _ _ h => h) (Or.inl ⟨by rfl, ?_⟩) hS ?_
      rotate_left
      · (intro wq hq; go_simp); first | done | with_reducible rfl
      try simp only [Act.put, List.setIfInBounds_toArray, List.set_cons_zero, List.set_cons_succ]
      replace hS := Till.list 12 hS
      refine done_g (by kernel_rfl) (NoPanic.normal ?_) _
      clear hS
      -- the new file's origin
      have hO8 : Old w6 (w6.alloc (.cells #[.int .i64 0, .string s] 83)).drew := ((Old.refl w6).alloc _).drew
      have hN8 : Bk (w6.alloc (.cells #[.int .i64 0, .string s] 83)).drew w6.heap.size _ 83 := Bk.new w6 #[.int .i64 0, .string s] 83
      have hK8 : Kp (fun _ => False) wr (w6.alloc (.cells #[.int .i64 0, .string s] 83)).drew := (hK6.alloc _).drew
      have hs8 : (w6.alloc (.cells #[.int .i64 0, .string s] 83)).drew.heap.size = w6.heap.size + 1 := by show (w6.heap.push _).size = _; simp
      have HS8 := Lib.hid hs8
      clear hs8
      go_wp2_with fail
      generalize (w6.alloc (.cells #[.int .i64 0, .string s] 83)).drew = w8 at *
      have hO68 := hO6.trans hO8
      have y0 := hO8.cell x0
      have z0 := hN8.cell 0 (v := .int .i64 0) rfl
      have z1 := hN8.cell 1 (v := .string s) rfl
      have v1 := hO68.cell (HCJ.out.dd.blk.cell 1 (v := .map (some gj.bF)) rfl)
      have hbv8 : BV w8 a K (data.take K) := (HBV.out.1.old hO68).take K hkK
      have hcl8 := Lib.hid (fun wq (hq : Old w8 wq) => clone8_any a K ca (data.take K) wq (hbv8.old hq) (by omega))
      clear hbv8 hws hwa
      refine wp_region_noPanic ?_
      refine region_g 12 (Old w8) (by kernel_rfl) ((Old.refl w8).drew) (fun hS => ?_)
      refine take_w (i := 0) (v := ?_) (some 60) rfl (by kernel_rfl) rfl (fun _ _ _ h => h) (Or.inl ⟨by rfl, ?_⟩) hS ?_
      rotate_left
      · (intro wq hq; go_simp); first | done | with_reducible rfl
      try simp only [Act.put, List.setIfInBounds_toArray, List.set_cons_zero, List.set_cons_succ]
      replace hS := Till.list 0 hS
      refine take_g (i := 4) (v := ?_) [4] (some 64) rfl (by kernel_rfl) rfl (fun _ _ _ h => h) (Or.inl ⟨by rfl, ?_⟩) hS ?_
      rotate_left
      · (intro wq hq; have r0 := hq.cell y0; have r1 := hq.cell z0; have r2 := hq.cell z1; have r3 := hq.cell v1; go_simp); first | done | with_reducible rfl
      try simp only [Act.put, List.setIfInBounds_toArray, List.set_cons_zero, List.set_cons_succ]
      replace hS := Till.list 4 hS
      refine take_w (i := 5) (v := ?_) (some 65) rfl (by kernel_rfl) rfl (fun _ _ _ h => h) (Or.inl ⟨by rfl, ?_⟩) hS ?_
      rotate_left
      · (intro wq hq; go_simp); first | done | with_reducible rfl
      try simp only [Act.put, List.setIfInBounds_toArray, List.set_cons_zero, List.set_cons_succ]
      replace hS := Till.list 5 hS
      refine take_w (i := 7) (v := ?_) (some 67) rfl (by kernel_rfl) rfl (fun _ _ _ h => h) (Or.inl ⟨by rfl, ?_⟩) hS ?_
      rotate_left
      · (intro wq hq; go_simp); first | done | with_reducible rfl
      try simp only [Act.put, List.setIfInBounds_toArray, List.set_cons_zero, List.set_cons_succ]
      replace hS := Till.list 7 hS
      refine take_w (i := 10) (v := ?_) (some 70) rfl (by kernel_rfl) rfl (fun _ _ _ h => h) (Or.inl ⟨by rfl, ?_⟩) hS ?_
      rotate_left
      · (intro wq hq; go_simp); first | done | with_reducible rfl
      try simp only [Act.put, List.setIfInBounds_toArray, List.set_cons_zero, List.set_cons_succ]
      replace hS := Till.list 10 hS
      refine take_w (i := 1) (v := ?_) (some 61) rfl (by kernel_rfl) rfl (fun _ _ _ h => h) (Or.inl ⟨by rfl, ?_⟩) hS ?_
      rotate_left
      · (intro wq hq; go_simp); first | done | with_reducible rfl
      try simp only [Act.put, List.setIfInBounds_toArray, List.set_cons_zero, List.set_cons_succ]
      replace hS := Till.list 1 hS
      refine take_g (i := 6) (v := ?_) [6] (some 66) rfl (by kernel_rfl) rfl (fun _ _ _ h => h) (Or.inl ⟨by rfl, ?_⟩) hS ?_
      rotate_left
      · (intro wq hq; have r0 := hq.cell y0; have r1 := hq.cell z0; have r2 := hq.cell z1; have r3 := hq.cell v1; go_simp); first | done | with_reducible rfl
      try simp only [Act.put, List.setIfInBounds_toArray, List.set_cons_zero, List.set_cons_succ]
      replace hS := Till.list 6 hS
      refine take_w (i := 2) (v := ?_) (some 62) rfl (by kernel_rfl) rfl (fun _ _ _ h => h) (Or.inl ⟨by rfl, ?_⟩) hS ?_
      rotate_left
      · (intro wq hq; go_simp); first | done | with_reducible rfl
      try simp only [Act.put, List.setIfInBounds_toArray, List.set_cons_zero, List.set_cons_succ]
      replace hS := Till.list 2 hS
      refine take_w (i := 8) (v := ?_) (some 68) rfl (by kernel_rfl) rfl (fun _ _ _ h => h) (Or.inl ⟨by rfl, ?_⟩) hS ?_
      rotate_left
      · (intro wq hq; go_simp); first | done | with_reducible rfl
      try simp only [Act.put, List.setIfInBounds_toArray, List.set_cons_zero, List.set_cons_succ]
      replace hS := Till.list 8 hS
      refine take_g (i := 3) (v := ?_) [3] (some 63) rfl (by kernel_rfl) rfl (fun _ _ _ h => h) (Or.inl ⟨by rfl, ?_⟩) hS ?_
      rotate_left
      · (intro wq hq; have r0 := hq.cell y0; have r1 := hq.cell z0; have r2 := hq.cell z1; have r3 := hq.cell v1; go_simp); first | done | with_reducible rfl
      try simp only [Act.put, List.setIfInBounds_toArray, List.set_cons_zero, List.set_cons_succ]
      replace hS := Till.list 3 hS
      refine ready_g (rs := [9]) (by kernel_rfl) (by simp) ?_
      refine AllReadyG.cons rfl (fun Kont hK => ?_) AllReadyG.nil
      go_simp
      refine (hcl8.out _ (Old.refl w8).drew).mono ?_
      rintro e w9 ⟨v', rfl, hv9, hb9⟩
      refine hK.out _ _ (Or.inr (((hS.get (by kernel_rfl)).below hb9))) (fun hS0 => ?_)
      clear hK Kont
      try simp only [Act.put, List.setIfInBounds_toArray, List.set_cons_zero, List.set_cons_succ]
      clear hS
      have hS := hS0
      clear hS0
      have hb9' : Below w8.heap.size w8 w9 := ⟨hb9.os, hb9.tape, hb9.output, hb9.size, hb9.block⟩
      have hv9' : OW w9 w8.heap.size v' (data.take K) := hv9
      have hO9 : Old w8 w9 := (Old.refl w8).below hb9'
      obtain ⟨a9, c9, hsh9⟩ := hv9'.os.shape
      have hkl9 : (data.take K).length = K := by rw [List.length_take]; omega
      rw [hkl9] at hsh9
      subst hsh9
      have hdd := HCJ.out.dd
      have hmF := ownsMap_same hdd.files.1 ((hO68.trans hO9).block _ hdd.files.1.lt)
      have hko : keyOf Try.prog 83 (oV (0, s)) = some (kO (0, s)) := keyO (o := (0, s)) (by have := okN_le hokn; show s.size ≤ 1000; omega) (by simp) (by simp)
      obtain ⟨w10, hrun, hm10, hg10⟩ := hmF.update law8O Try.underlying66 (by have := hdd.fsize; unfold maxLen; omega) hko (eF_mk a9 K c9 (K : Int))
      have hH9 := Lib.hid (And.intro hb9' (And.intro hv9' (And.intro hm10 hg10)))
      unfold oV fV at hrun
      clear hb9 hb9' hv9 hv9' hm10 hg10 hmF hdd hcl8
      refine take_w (i := 11) (v := ?_) (some 71) rfl (by kernel_rfl) rfl (fun _ _ _ h => h) (Or.inl ⟨by rfl, ?_⟩) hS ?_
      rotate_left
      · (intro wq hq; go_simp); first | done | with_reducible rfl
      try simp only [Act.put, List.setIfInBounds_toArray, List.set_cons_zero, List.set_cons_succ]
      replace hS := Till.list 11 hS
      refine ready_g (rs := [12]) (by kernel_rfl) (by simp) ?_
      refine AllReadyG.cons rfl (fun Kont hK => ?_) AllReadyG.nil
      go_simp
      refine hK.out _ _ (Or.inl (by kernel_rfl)) (fun hS0 => ?_)
      clear hK Kont
      try simp only [Act.put, List.setIfInBounds_toArray, List.set_cons_zero, List.set_cons_succ]
      clear hS
      have hS := hS0
      clear hS0
      refine done_g (by kernel_rfl) (NoPanic.normal ?_) _
      clear hS
      obtain ⟨hb9', hv9', hm10, hg10⟩ := hH9.out
      have hdd := HCJ.out.dd
      have hS6 := HS6.out
      have hS8 := HS8.out
      have hS9 := hb9'.size
      have hqp := hdd.blk.lt
      have hFl := hdd.files.1.lt
      have hNl := hdd.names.1.lt
      have hO89 : Old wr w9 := hO68.trans hO9
      have hk10 : ∀ b, b < w9.heap.size → b ≠ gj.bF → w10.heap[b]? = w9.heap[b]? := fun b h1 h2 => hg10.block b h1 (fun e => h2 (Option.some.inj e))
      have hqF : q ≠ gj.bF := fun e => by have h1 := hdd.foot.2; have h2 := hdd.files.2.2; rw [e] at h1; omega
      have hNF : gj.bN ≠ gj.bF := fun e => by have h1 := hdd.names.2.2; have h2 := hdd.files.2.2; rw [e] at h1; omega
      have u2 : w10.cell? ⟨q, 2, none⟩ = some (.map (some gj.bN)) := cell_block (hk10 _ (by have := hO89.size; omega) hqF) (hO89.cell (hdd.blk.cell 2 (v := .map (some gj.bN)) rfl))
      have u0 : w10.cell? ⟨w6.heap.size, 0, none⟩ = some (.int .i64 0) := cell_block (hk10 _ (by omega) (by omega)) (hO9.cell z0)
      have u1 : w10.cell? ⟨w6.heap.size, 1, none⟩ = some (.string s) := cell_block (hk10 _ (by omega) (by omega)) (hO9.cell z1)
      have hmN : w10.drew.ownsMap Try.prog 9 eO gj.bN _ (nmD gj.og (bldD M ts (l.take j)).names) := ownsMap_same hdd.names.1 ((hk10 _ (by have := hO89.size; omega) hNF).trans (hO89.block _ hNl))
      have hnlen : (bldD M ts (l.take j)).names.length = j := by show (numberN 0 (l.take j)).length = j; rw [numberN_len, List.length_take]; omega
      have hflen : (bldD M ts (l.take j)).files.length = j := by show (foundL _ _ _ (l.take j)).length = j; rw [foundL_len, List.length_take]; omega
      obtain ⟨w11, hrun2, hm11, hg11⟩ := hmN.update law8N Try.underlying67 (by rw [hnlen]; unfold maxLen; omega) (keyN (s := s) (by have := okN_le hokn; unfold maxLen; omega)) (eO_mk (0, s))
      have hk11 : ∀ b, b < w10.heap.size → b ≠ gj.bN → w11.heap[b]? = w10.heap[b]? := fun b h1 h2 => hg11.block b h1 (fun e => h2 (Option.some.inj e))
      have hsz10 := hg10.size
      have hsz11 : w10.heap.size ≤ w11.heap.size := hg11.size
      have hadd := hdd.fileAdd (w' := w11) (by omega) rfl rfl (foundOne M.files ts j f) (by rw [HFO.out]; show K ≤ (data.take K).length; omega) (by rw [HFO.out]; show (data.take K).length ≤ _; omega)
        (by rw [HFO.out]; exact fun y hy => HBV.out.2 y (List.mem_of_mem_take hy)) (0, s) (Int.le_refl _) (Int.le_refl _) (by have := okN_le hokn; show s.size ≤ 1000; omega)
        (fun i hi e => by
          rw [hflen] at hi
          have h1 := HCJ.out.og i hi
          rw [h1] at e
          exact ltN_ne (hlast0 i hi) (congrArg Prod.snd e))
        s hokn
        (fun x hx => by
          obtain ⟨y, hy, e⟩ := numberN_first 0 _ x hx
          obtain ⟨i, hi, rfl⟩ := List.getElem_of_mem hy
          have hij : i < j := by rw [List.length_take] at hi; omega
          have h1 := hlast0 i hij
          rw [List.getD_eq_getElem?_getD, List.getElem?_eq_getElem (by omega)] at h1
          rw [← e, List.getElem_take]
          exact h1)
        (by rw [hnlen]; omega) (by have := HCJ.out.sz; omega) (v' := .slice a9 K c9)
        (by rw [HFO.out]; exact (hv9'.mono (Nat.zero_le _)).same8 (fun b hb hl => by
          have h1 := (OW.low8 hv9' hb)
          exact (hk11 b (by omega) (by omega)).trans (hk10 b hl (by omega))))
        (fun b hb => by
          have h1 := (OW.low8 hv9' hb)
          exact ⟨by omega, hF0 b (by omega)⟩)
        (by rw [HFO.out]; exact ownsMap_same hm10 (hk11 _ (by have := hO89.size; omega) (Ne.symm hNF)))
        (by rw [hnlen]; rw [hnlen] at hm11; exact hm11)
        (fun b h1 h2 h3 h4 => by
          have e1 : b ≠ gj.bF := fun e => h3 (by rw [e]; exact hdd.files.2.2)
          have e2 : b ≠ gj.bN := fun e => h4 (by rw [e]; exact hdd.names.2.2)
          have := hO89.size
          exact (hk11 b (by omega) e2).trans ((hk10 b (by omega) e1).trans (hO89.block b h2)))
      have hbs2 : bldD M ts (l.take (j + 1)) = { bldD M ts (l.take j) with files := (bldD M ts (l.take j)).files ++ [foundOne M.files ts j f], names := (bldD M ts (l.take j)).names ++ [(s, (bldD M ts (l.take j)).files.length)] } := by
        rw [HTK.out, bld_snoc]
        rw [show (l.take j).length = j by rw [List.length_take]; omega]
      rw [← hbs2] at hadd
      have hKK : Kp (fun b => (w1.heap.size ≤ b ∧ b < w2.heap.size) ∨ ws.heap.size ≤ b) ws w11 := by
        have hk := HCJ.out.kp
        have h1 : Kp (fun b => (w1.heap.size ≤ b ∧ b < w2.heap.size) ∨ ws.heap.size ≤ b) ws w8 := hk.trans (hK8.mono (fun b _ hb => hb.elim))
        have h2 := h1.of_below hb9' (fun b hb _ => by have := hk.size; omega)
        have h3 := h2.grown hg10 (fun j hj => by cases hj; exact .inl hdd.files.2.1)
        exact h3.drew.grown hg11 (fun j hj => by cases hj; exact .inl hdd.names.2.1)
      have hCR : ∃ gn, CR ts M l k (fun b => (w1.heap.size ≤ b ∧ b < w2.heap.size) ∨ ws.heap.size ≤ b) q ws w11 (j + 1) gn := by
        refine ⟨_, by omega, hadd, ?_, ?_, hKK⟩
        · show Maps.size (gj.DF.put _ _) ≤ j + 1
          rw [size_put (hdd.files.1.tidy law8O)]
          have := HCJ.out.sz
          split <;> omega
        · intro i hi
          show (if i = (bldD M ts (l.take j)).files.length then ((0 : Int), s) else gj.og i) = _
          rw [hflen]
          by_cases e : i = j
          · rw [if_pos e, e]
            have h1 := HTK.out
            have h2 : (l.take (j + 1)).getD j (noN, 0) = (s, f) := by
              rw [h1, List.getD_eq_getElem?_getD, List.getElem?_append_right (by rw [List.length_take]; omega)]
              simp [List.length_take, Nat.min_eq_left hjle]
            rw [List.getD_eq_getElem?_getD, List.getElem?_take_of_lt (by omega), ← List.getD_eq_getElem?_getD] at h2
            rw [h2]
          · rw [if_neg e]; exact HCJ.out.og i (by omega)
      have HCR2 := Lib.hid hCR
      unfold oV at hrun2
      clear hCR hKK hadd hbs2 hk11 hg11 hm11 hmN hnlen hflen hk10 hO89 hdd hm10 hg10 hv9' hb9' hS6 hS8 hS9 hsz10 hsz11 hkl9 hF0 hlast0
      go_wp2_with fail
      refine wp_region_noPanic ?_
      refine region_g 6 (Ext (World.drew _)) (by kernel_rfl) (Ext.refl _) (fun hS => ?_)
      refine take_w (i := 0) (v := ?_) (some 72) rfl (by kernel_rfl) rfl (fun _ _ _ h => h) (Or.inl ⟨by rfl, ?_⟩) hS ?_
      rotate_left
      · (intro wq hq; go_simp); first | done | with_reducible rfl
      try simp only [Act.put, List.setIfInBounds_toArray, List.set_cons_zero, List.set_cons_succ]
      replace hS := Till.list 0 hS
      refine take_w (i := 4) (v := ?_) (some 76) rfl (by kernel_rfl) rfl (fun _ _ _ h => h) (Or.inl ⟨by rfl, ?_⟩) hS ?_
      rotate_left
      · (intro wq hq; go_simp); first | done | with_reducible rfl
      try simp only [Act.put, List.setIfInBounds_toArray, List.set_cons_zero, List.set_cons_succ]
      replace hS := Till.list 4 hS
      refine take_g (i := 5) (v := ?_) [5] (some 77) rfl (by kernel_rfl) rfl (fun _ _ _ h => h) (Or.inl ⟨by rfl, ?_⟩) hS ?_
      rotate_left
      · (intro wq hq; have q0 := hq _ _ _ u0; have q1 := hq _ _ _ u1; have q2 := hq _ _ _ u2; go_simp); first | done | with_reducible rfl
      try simp only [Act.put, List.setIfInBounds_toArray, List.set_cons_zero, List.set_cons_succ]
      replace hS := Till.list 5 hS
      refine take_w (i := 1) (v := ?_) (some 73) rfl (by kernel_rfl) rfl (fun _ _ _ h => h) (Or.inl ⟨by rfl, ?_⟩) hS ?_
      rotate_left
      · (intro wq hq; go_simp); first | done | with_reducible rfl
      try simp only [Act.put, List.setIfInBounds_toArray, List.set_cons_zero, List.set_cons_succ]
      replace hS := Till.list 1 hS
      refine take_w (i := 2) (v := ?_) (some 74) rfl (by kernel_rfl) rfl (fun _ _ _ h => h) (Or.inl ⟨by rfl, ?_⟩) hS ?_
      rotate_left
      · (intro wq hq; go_simp); first | done | with_reducible rfl
      try simp only [Act.put, List.setIfInBounds_toArray, List.set_cons_zero, List.set_cons_succ]
      replace hS := Till.list 2 hS
      refine take_g (i := 3) (v := ?_) [3] (some 75) rfl (by kernel_rfl) rfl (fun _ _ _ h => h) (Or.inl ⟨by rfl, ?_⟩) hS ?_
      rotate_left
      · (intro wq hq; have q0 := hq _ _ _ u0; have q1 := hq _ _ _ u1; have q2 := hq _ _ _ u2; go_simp); first | done | with_reducible rfl
      try simp only [Act.put, List.setIfInBounds_toArray, List.set_cons_zero, List.set_cons_succ]
      replace hS := Till.list 3 hS
      refine ready_g (rs := [6]) (by kernel_rfl) (by simp) ?_
      refine AllReadyG.cons rfl (fun Kont hK => ?_) AllReadyG.nil
      go_simp
      refine hK.out _ _ (Or.inl (by kernel_rfl)) (fun hS0 => ?_)
      clear hK Kont
      try simp only [Act.put, List.setIfInBounds_toArray, List.set_cons_zero, List.set_cons_succ]
      clear hS
      have hS := hS0
      clear hS0
      refine done_g (by kernel_rfl) (NoPanic.normal ?_) _
      clear hS
      go_wp2_with fail
      go_roundw
      case rel => obtain ⟨gn, hgn⟩ := HCR2.out; exact ⟨j + 1, gn, by go_num, hgn⟩
      case measure => simp [intOf]; omega
    · have hji : ¬ (j : Int) < (l.length : Int) := by omega
      have hjl : j = l.length := by omega
      have hdd := hcr.dd
      rw [hjl, List.take_length] at hdd
      have hkp := hcr.kp
      have hke := Lib.hid (keep_any gj k wr (fun b => (w1.heap.size ≤ b ∧ b < w2.heap.size) ∨ ws.heap.size ≤ b) q _ hk hF0 hdd)
      have HB := Lib.hid (And.intro hb1 (And.intro hb2 (And.intro hbs hkp)))
      have HSZ := Lib.hid (And.intro hs12 (And.intro hs2s hfl1))
      clear hcr hdd hkp hjl hF0 hs12 hs2s hfl1 hb1 hb2 hbs hold1
      go_wp2_with fail
      refine hke.out.mono ?_
      rintro e w' ⟨rfl, hd, hk1⟩
      have HD := Lib.hid (And.intro hd hk1)
      clear hd hk1
      go_wp2_with fail
      go_ret
      obtain ⟨⟨g', hd⟩, hk1⟩ := HD.out
      obtain ⟨hb1, hb2, hbs, hkp⟩ := HB.out
      obtain ⟨hs12, hs2s, hfl1⟩ := HSZ.out
      have hs1 := hb1.size
      refine ⟨g', q, rfl, ?_, ?_⟩
      · rw [HCR.out]
        exact hd.refoot (fun b hb _ => by rcases hb with hb | hb <;> omega)
      · have h1 : Below w.heap.size w ws := hb1.trans ((hb2.mono hs1).trans (hbs.mono (by omega)))
        exact h1.trans ((hkp.trans hk1).below (base := w.heap.size) (fun b hb => by rcases hb with hb | hb <;> omega) (by omega))
end Go.Proofs.Ytlagmjdldplblaa
/- A disk within a statement: each operation's contract, over what was there ahead. -/
namespace Go.Proofs.Ytlagmjdldplblaa
open Go.ChangeShapes Go.WideShapes Go.ChangeAt Go.RowKit Go.WideMaps Go.Maps
set_option linter.unusedVariables false
set_option maxRecDepth 4000

/-- the disk at p is M; its memory, and all that turned since w0, is younger than w0 -/
def LD (w0 w : World) (p k : Nat) (M : DK) : Prop := (∃ g, DD g k w (fun b => w0.heap.size ≤ b) p M) ∧ Below w0.heap.size w0 w
/-- what an operation tells -/
def LE (w0 : World) (p k : Nat) (N : DK × Int) (e : Ending) (w' : World) : Prop := e = .returned (.int .i64 N.2) ∧ LD w0 w' p k N.1
section
variable {w0 w w' : World} {p k : Nat} {M : DK}
theorem LD.below (h : LD w0 w p k M) (hb : Below w.heap.size w w') : LD w0 w' p k M := ⟨(by obtain ⟨g, hd⟩ := h.1; exact ⟨g, hd.below hb⟩), h.2.trans (hb.mono h.2.size)⟩
theorem LD.drew (h : LD w0 w p k M) : LD w0 w.drew p k M := h.below ((Below.refl _ _).drew)
theorem LD.alloc (h : LD w0 w p k M) (o : Obj) : LD w0 (w.alloc o) p k M := h.below ((Below.refl _ _).alloc (Nat.le_refl _) _)
theorem LD.more (h : LD w0 w p k M) {q : Nat} (hq : k ≤ q) : LD w0 w p q M := ⟨(by obtain ⟨g, hd⟩ := h.1; exact ⟨g, hd.more hq⟩), h.2⟩
theorem did_ld (hb : Below w0.heap.size w0 w) {N : DK × Int} {F : Nat → Prop} (hF : ∀ b, F b → w0.heap.size ≤ b) {e : Ending} (h : Tells (Did k F p w N) e w') : LE w0 p k N e w' := by
  obtain ⟨v, rfl, rfl, ⟨g, hd⟩, hk⟩ := h
  exact ⟨rfl, ⟨g, hd.refoot (fun b hb _ => hF b hb)⟩, hb.trans (hk.below hF hb.size)⟩
theorem ld_new (hb : Below w0.heap.size w0 w) : ∀ b, w.heap.size ≤ b → w0.heap.size ≤ b := fun b h => Nat.le_trans hb.size h
theorem create_l (h : LD w0 w p k M) (hk : k ≤ 800) (s : ByteArray) (hs : s.size ≤ 1000) : Calls Try.prog 16 #[.pointer (some ⟨p, 0, none⟩), .string s] w (LE w0 p (k + 3) (createD M s)) := by
  obtain ⟨⟨g, hd⟩, hb⟩ := h
  exact (create_any g k w _ p M hk (ld_new hb) hd s hs).mono (fun e w' hr => did_ld hb (fun _ h => h) hr)
theorem remove_l (h : LD w0 w p k M) (hk : k ≤ 800) (s : ByteArray) (hs : s.size ≤ 1000) : Calls Try.prog 17 #[.pointer (some ⟨p, 0, none⟩), .string s] w (LE w0 p (k + 3) (removeD M s)) := by
  obtain ⟨⟨g, hd⟩, hb⟩ := h
  exact (remove_any g k w _ p M (by omega) (ld_new hb) hd s hs).mono (fun e w' hr => did_ld hb (fun _ h => h) hr)
theorem rename_l (h : LD w0 w p k M) (hk : k ≤ 800) (s t : ByteArray) (hs : s.size ≤ 1000) : Calls Try.prog 35 #[.pointer (some ⟨p, 0, none⟩), .string s, .string t] w (LE w0 p (k + 3) (renameD M s t)) := by
  obtain ⟨⟨g, hd⟩, hb⟩ := h
  exact (rename_any g k w _ p M (by omega) (ld_new hb) hd s t hs).mono (fun e w' hr => did_ld hb (fun _ h => h) hr)
theorem sync_l (h : LD w0 w p k M) (hk : k ≤ 800) (s : ByteArray) (hs : s.size ≤ 1000) : Calls Try.prog 27 #[.pointer (some ⟨p, 0, none⟩), .string s] w (LE w0 p (k + 3) (syncD M s)) := by
  obtain ⟨⟨g, hd⟩, hb⟩ := h
  exact (sync_any g k w _ p M hk (ld_new hb) hd s hs).mono (fun e w' hr => did_ld hb (fun _ h => h) hr)
theorem syncDir_l (h : LD w0 w p k M) (hk : k ≤ 800) : Calls Try.prog 28 #[.pointer (some ⟨p, 0, none⟩)] w (LE w0 p (k + 3) (syncDirD M)) := by
  obtain ⟨⟨g, hd⟩, hb⟩ := h
  exact (syncDir_any g k w _ p M hk (ld_new hb) hd).mono (fun e w' hr => did_ld hb (fun _ h => h) hr)
/-- bytes that were there ahead -/
theorem append_l (h : LD w0 w p k M) (hk : k ≤ 800) (s : ByteArray) (hs : s.size ≤ 1000) (A : Option Addr) (n c : Nat) (zs : List Int) (hv : BV w A n zs) (hnc : n ≤ c) (hn : n ≤ 1000) (hA : Low w0.heap.size A n) :
    Calls Try.prog 18 #[.pointer (some ⟨p, 0, none⟩), .string s, .slice A n c] w (LE w0 p (k + 3) (appendD M s zs)) := by
  obtain ⟨⟨g, hd⟩, hb⟩ := h
  exact (append_any g k w _ p M hk (ld_new hb) hd s hs A n c zs hv hnc hn (hA.imp id (fun hA x hx hl => by have := hA x hx; omega))).mono (fun e w' hr => did_ld hb (fun _ h => h) hr)
/-- bytes that are new -/
theorem append_n (h : LD w0 w p k M) (hk : k ≤ 800) (hw : Below w.heap.size w w') (s : ByteArray) (hs : s.size ≤ 1000) (A : Option Addr) (n c : Nat) (zs : List Int) (hv : BV w' A n zs) (hnc : n ≤ c) (hn : n ≤ 1000) (hA : ∀ x, A = some x → w.heap.size ≤ x.block ∧ x.block < w'.heap.size) :
    Calls Try.prog 18 #[.pointer (some ⟨p, 0, none⟩), .string s, .slice A n c] w' (LE w0 p (k + 3) (appendD M s zs)) := by
  obtain ⟨⟨g, hd⟩, hb⟩ := h
  have hd' : DD g k w' (fun b => w0.heap.size ≤ b ∧ (b < w.heap.size ∨ w'.heap.size ≤ b)) p M := hd.move g.rl (fun b h1 h2 => ⟨hw.block b h2, ⟨h1, .inl h2⟩, rfl⟩)
  have hb' : Below w0.heap.size w0 w' := hb.trans (hw.mono hb.size)
  exact (append_any g k w' _ p M hk (fun b hb2 => ⟨Nat.le_trans hb'.size hb2, .inr hb2⟩) hd' s hs A n c zs hv hnc hn (.inr (fun x hx hl => by have := hA x hx; omega))).mono (fun e w2 hr => did_ld hb' (fun _ h => h.1) hr)
theorem used_l (h : LD w0 w p k M) (hk : k ≤ 1000) : Calls Try.prog 34 #[.pointer (some ⟨p, 0, none⟩)] w fun e w' => e = .returned (.int .i64 (usedD M : Int)) ∧ Below w.heap.size w w' := by
  obtain ⟨⟨g, hd⟩, hb⟩ := h
  exact used_any g k w _ p M hk hd
theorem steps_l (h : LD w0 w p k M) : Calls Try.prog 33 #[.pointer (some ⟨p, 0, none⟩)] w fun e w' => e = .returned (.int .i64 (M.taken : Int)) ∧ w' = w := by
  obtain ⟨⟨g, hd⟩, hb⟩ := h
  exact steps_any g k w _ p M hd
theorem read_l (h : LD w0 w p k M) (hk : k ≤ 1000) (s : ByteArray) (hs : s.size ≤ 1000) : Calls Try.prog 31 #[.pointer (some ⟨p, 0, none⟩), .string s] w fun e w' => ReadE w w' (readD M s) e := by
  obtain ⟨⟨g, hd⟩, hb⟩ := h
  exact read_any g k w _ p M hk hd s hs
theorem names_l (h : LD w0 w p k M) (hk : k ≤ 1000) : Calls Try.prog 29 #[.pointer (some ⟨p, 0, none⟩)] w fun e w' => ∃ v, e = .returned v ∧ OS 1 w' w.heap.size v M.names.length (tcells (textsD M)) ∧ Below w.heap.size w w' := by
  obtain ⟨⟨g, hd⟩, hb⟩ := h
  exact names_any g k w _ p M hk hd
theorem limit_l (h : LD w0 w p k M) (n : Int) (hn : n ≤ maxI) : Calls Try.prog 21 #[.pointer (some ⟨p, 0, none⟩), .int .i64 n] w fun e w' => e = .returned (.tuple #[]) ∧ LD w0 w' p k (limitD M n) := by
  obtain ⟨⟨g, hd⟩, hb⟩ := h
  exact (limit_any g k w _ p M hd n hn).mono (fun e w' ⟨he, h1, h2⟩ => ⟨he, ⟨g, h1⟩, hb.trans (h2.below (fun _ h => h) hb.size)⟩)
/-- numbers that were there ahead -/
theorem fail_l (h : LD w0 w p k M) (A : Option Addr) (n c : Nat) (ts : List Int) (hv : IV w A n ts) (hn : n ≤ 1000) (hA : Low w0.heap.size A n) (hr : ∀ x ∈ ts, -9223372036854775808 ≤ x ∧ x ≤ maxI) :
    Calls Try.prog 19 #[.pointer (some ⟨p, 0, none⟩), .slice A n c] w fun e w' => e = .returned (.tuple #[]) ∧ LD w0 w' p k (failD M ts) := by
  obtain ⟨⟨g, hd⟩, hb⟩ := h
  exact (fail_any g k w _ p M (ld_new hb) hd A n c ts hv hn (hA.imp id (fun hA x hx hl => by have := hA x hx; omega)) hr).mono (fun e w' ⟨he, h1, h2⟩ => ⟨he, h1, hb.trans (h2.below (fun _ h => h) hb.size)⟩)
/-- numbers that are new -/
theorem fail_n (h : LD w0 w p k M) (hw : Below w.heap.size w w') (A : Option Addr) (n c : Nat) (ts : List Int) (hv : IV w' A n ts) (hn : n ≤ 1000) (hA : ∀ x, A = some x → w.heap.size ≤ x.block ∧ x.block < w'.heap.size) (hr : ∀ x ∈ ts, -9223372036854775808 ≤ x ∧ x ≤ maxI) :
    Calls Try.prog 19 #[.pointer (some ⟨p, 0, none⟩), .slice A n c] w' fun e w' => e = .returned (.tuple #[]) ∧ LD w0 w' p k (failD M ts) := by
  obtain ⟨⟨g, hd⟩, hb⟩ := h
  have hd' : DD g k w' (fun b => w0.heap.size ≤ b ∧ (b < w.heap.size ∨ w'.heap.size ≤ b)) p M := hd.move g.rl (fun b h1 h2 => ⟨hw.block b h2, ⟨h1, .inl h2⟩, rfl⟩)
  have hb' : Below w0.heap.size w0 w' := hb.trans (hw.mono hb.size)
  exact (fail_any g k w' _ p M (fun b hb2 => ⟨Nat.le_trans hb'.size hb2, .inr hb2⟩) hd' A n c ts hv hn (.inr (fun x hx hl => by have := hA x hx; omega)) hr).mono (fun e w2 ⟨he, ⟨g2, h1⟩, h2⟩ => ⟨he, ⟨g2, h1.refoot (fun b hb _ => hb.1)⟩, hb'.trans (h2.below (fun _ h => h.1) hb'.size)⟩)
/-- what is found: a disk of its own; the old one stays -/
theorem crash_l (h : LD w0 w p k M) (hk : k ≤ 900) (changes : Int) (A : Option Addr) (n c : Nat) (ts : List Int) (hv : IV w A n ts) (hn : n ≤ 1000) (hr : ∀ x ∈ ts, -9223372036854775808 ≤ x ∧ x ≤ maxI) :
    Calls Try.prog 12 #[.pointer (some ⟨p, 0, none⟩), .int .i64 changes, .slice A n c] w fun e w' => ∃ q, e = .returned (.pointer (some ⟨q, 0, none⟩)) ∧ LD w w' q k (crashD M changes ts) ∧ LD w0 w' p k M := by
  obtain ⟨⟨g, hd⟩, hb⟩ := id h
  exact (crash_any g k w _ p M hk hd changes A n c ts hv hn hr).mono (fun e w' ⟨g', q, he, h1, h2⟩ => ⟨q, he, ⟨⟨g', h1⟩, h2⟩, h.below h2⟩)
theorem crash_nil (h : LD w0 w p k M) (hk : k ≤ 900) (changes : Int) :
    Calls Try.prog 12 #[.pointer (some ⟨p, 0, none⟩), .int .i64 changes, .slice none 0 0] w fun e w' => ∃ q, e = .returned (.pointer (some ⟨q, 0, none⟩)) ∧ LD w w' q k (crashD M changes []) ∧ LD w0 w' p k M :=
  crash_l h hk changes none 0 0 [] ⟨rfl, (fun u hu => by cases hu), .inl rfl⟩ (by omega) (fun x hx => by cases hx)
theorem new_l (w : World) (q : Int) (hq : q ≤ maxI) : Calls Try.prog 10 #[.int .i64 q] w fun e w' => ∃ p, e = .returned (.pointer (some ⟨p, 0, none⟩)) ∧ LD w w' p 0 (newD q) :=
  (new_any w q hq).mono (fun e w' ⟨g, p, he, h1, h2⟩ => ⟨p, he, ⟨g, h1⟩, h2⟩)
end
def sA : ByteArray := { data := #[97] }
def shM : DK := (syncD (appendD (createD (newD 9) sA).1 sA [120, 121]).1 sA).1
def shN : DK := (appendD (syncDirD shM).1 sA [122]).1
theorem sh_c : (crashD shM 0 []).names.length = 0 := by kernel_rfl
theorem sh_e : (crashD shN 0 []).names.length = 1 := by kernel_rfl
theorem sh_r : readD (crashD shN 0 []) sA = ([120, 121], 0) := by kernel_rfl
end Go.Proofs.Ytlagmjdldplblaa
/- The statements' own helpers of stage 8: shown, few, some. -/
namespace Go.Proofs.Ytlagmjdldplblaa
open Go.ChangeShapes Go.WideShapes Go.ChangeAt Go.RowKit Go.WideMaps Go.Maps
set_option linter.unusedVariables false
set_option maxRecDepth 4000

set_option maxHeartbeats 1000000 in
theorem few8_any (A : Option Addr) (n c : Nat) (zs : List Int) (w : World) (hv : BV w A n zs) (hnc : n ≤ c) :
    Calls Try.prog 26 #[.slice A n c] w fun e w' => ∃ m, e = .returned (.slice A m c) ∧ m = (zs.take 100).length ∧ BV w A m (zs.take 100) ∧ w' = w := by
  have hl := hv.1
  by_cases h : n ≤ 100
  · have hi : ¬ (100 : Int) < (n : Int) := by omega
    have HV := Lib.hid hv
    have HL := Lib.hid hl
    clear hv hl
    go_enter Try.func26, Try.ntmps26
    go_wp2_with fail
    go_ret
    refine ⟨n, rfl, ?_, ?_, rfl⟩
    · have h1 := List.length_take (i := 100) (l := zs)
      have h2 := HL.out
      omega
    · rw [List.take_of_length_le (by rw [HL.out]; omega)]; exact HV.out
  · have hi : (100 : Int) < (n : Int) := by omega
    have hc : (100 : Int) ≤ (c : Int) := by omega
    have hc2 : 100 ≤ c := by omega
    have HV := Lib.hid (hv.take 100 (by omega))
    have HL := Lib.hid hl
    clear hv hl
    go_enter Try.func26, Try.ntmps26
    go_wp2_with fail
    go_ret
    refine ⟨100, rfl, ?_, HV.out, rfl⟩
    have h1 := List.length_take (i := 100) (l := zs)
    have h2 := HL.out
    omega
set_option maxHeartbeats 1000000 in
theorem some8_any (A : Option Addr) (n c : Nat) (ts : List Int) (w : World) (hv : IV w A n ts) (hnc : n ≤ c) :
    Calls Try.prog 13 #[.slice A n c] w fun e w' => ∃ m, e = .returned (.slice A m c) ∧ m ≤ 10 ∧ IV w A m (ts.take 10) ∧ w' = w := by
  have hl := IV.len hv
  by_cases h : n ≤ 10
  · have hi : ¬ (10 : Int) < (n : Int) := by omega
    have HV := Lib.hid hv
    have HL := Lib.hid hl
    clear hv hl
    go_enter Try.func13, Try.ntmps13
    go_wp2_with fail
    go_ret
    refine ⟨n, rfl, h, ?_, rfl⟩
    rw [List.take_of_length_le (by rw [HL.out]; omega)]; exact HV.out
  · have hi : (10 : Int) < (n : Int) := by omega
    have hc : (10 : Int) ≤ (c : Int) := by omega
    have hc2 : 10 ≤ c := by omega
    have HV := Lib.hid (IV.take hv 10 (by omega))
    clear hv hl
    go_enter Try.func13, Try.ntmps13
    go_wp2_with fail
    go_ret
    exact ⟨10, rfl, Nat.le_refl _, HV.out, rfl⟩
/-- what is few of bytes that were there ahead -/
theorem few_l {w1 : World} {A : Option Addr} {n c : Nat} {xs : List Int} (hv : BV w1 A n xs) (hnc : n ≤ c) : ∃ m zs, zs = xs.take 100 ∧ zs.length = m ∧ m ≤ c ∧ m ≤ 100 ∧ BV w1 A m zs ∧ Low w1.heap.size A m ∧
    ∀ w, Below w1.heap.size w1 w → Calls Try.prog 26 #[.slice A n c] w fun e w' => e = .returned (.slice A m c) ∧ w' = w := by
  have hl := hv.1
  have h1 := List.length_take (i := 100) (l := xs)
  have hbv : BV w1 A (xs.take 100).length (xs.take 100) := by
    by_cases h : n ≤ 100
    · rw [List.take_of_length_le (by omega), hl]; exact hv
    · have := hv.take 100 (by omega)
      rwa [show (xs.take 100).length = 100 by omega]
  refine ⟨(xs.take 100).length, xs.take 100, rfl, rfl, by omega, by omega, hbv, Low.of hbv, fun w hb => ?_⟩
  refine (few8_any A n c xs w (hv.below hb) hnc).mono ?_
  rintro e w' ⟨m, rfl, rfl, -, rfl⟩
  exact ⟨rfl, rfl⟩
theorem LowI.of {w : World} {a : Option Addr} {n : Nat} {zs : List Int} (h : IV w a n zs) : Low w.heap.size a n := by
  rcases h.2.2 with h3 | ⟨b, off, rfl, hc⟩
  · exact .inl h3
  · by_cases hn : n = 0
    · exact .inl hn
    · refine .inr (fun x hx => ?_)
      obtain ⟨b', off', e, hcell⟩ := IV.at h 0 (by omega)
      cases hx; cases e
      exact cell_lt hcell
theorem some_l {w1 : World} {A : Option Addr} {n c : Nat} {ts : List Int} (hv : IV w1 A n ts) (hnc : n ≤ c) : ∃ m zs, zs = ts.take 10 ∧ m ≤ 10 ∧ IV w1 A m zs ∧ Low w1.heap.size A m ∧
    ∀ w, Below w1.heap.size w1 w → Calls Try.prog 13 #[.slice A n c] w fun e w' => e = .returned (.slice A m c) ∧ w' = w := by
  have hl := IV.len hv
  have h1 := List.length_take (i := 10) (l := ts)
  have hbv : IV w1 A (ts.take 10).length (ts.take 10) := by
    by_cases h : n ≤ 10
    · rw [List.take_of_length_le (by omega), hl]; exact hv
    · have := IV.take hv 10 (by omega)
      rwa [show (ts.take 10).length = 10 by omega]
  refine ⟨(ts.take 10).length, ts.take 10, rfl, by omega, hbv, LowI.of hbv, fun w hb => ?_⟩
  refine (some8_any A n c ts w (SV.below hv hb) hnc).mono ?_
  rintro e w' ⟨m, rfl, hm, hv', rfl⟩
  have := IV.len hv'
  rw [this]
  exact ⟨rfl, rfl⟩
theorem bvC (w : World) (zs : List Int) (n : Nat) (cs : Array Value) (T : TypeId) (fz : Nat × Nat) (hcs : cs.toList = zs.map (Value.int .u8)) (hn : zs.length = n) (hz : ∀ z ∈ zs, 0 ≤ z ∧ z ≤ 255) : BV (w.alloc (.cells cs T fz)) (some ⟨w.heap.size, 0, none⟩) n zs := by
  refine ⟨hn, hz, .inr ⟨_, 0, rfl, fun i hi => ?_⟩⟩
  have h1 : (w.alloc (.cells cs T fz)).heap[w.heap.size]? = some (.cells cs T fz) := heap_alloc_new w _
  have h2 : cs[i]? = some (.int .u8 (zs.getD i 0)) := by
    rw [← Array.getElem?_toList, hcs]
    simp [show i < zs.length by omega]
  rw [Nat.zero_add]
  simp only [World.cell?, h1, h2]; rfl
/-- a disk that is left alone while others are at work -/
def Idle (a b : Nat) (w : World) (q k : Nat) (C : DK) : Prop := ∃ g, DD g k w (fun x => a ≤ x ∧ x < b) q C
theorem Idle.of {w w' : World} {q k : Nat} {C : DK} (h : LD w w' q k C) : Idle w.heap.size w'.heap.size w' q k C := by
  obtain ⟨⟨g, hd⟩, -⟩ := h
  exact ⟨g, hd.refoot (fun b h1 h2 => ⟨h1, h2⟩)⟩
theorem Idle.keep {a b : Nat} {w w' : World} {q k : Nat} {C : DK} (h : Idle a b w q k C) {F : Nat → Prop} (hk : Kp F w w') (hF : ∀ x, a ≤ x → x < b → ¬ F x) : Idle a b w' q k C := by
  obtain ⟨g, hd⟩ := h
  exact ⟨g, hd.same (fun x hx hl => hk.block x hl (hF x hx.1 hx.2))⟩
theorem Idle.below {a b : Nat} {w w' : World} {q k : Nat} {C : DK} (h : Idle a b w q k C) (hb : Below w.heap.size w w') : Idle a b w' q k C := by
  obtain ⟨g, hd⟩ := h
  exact ⟨g, hd.below hb⟩
/-- the disk at p, while what lies from a to b is left alone -/
def LX (w0 : World) (a b : Nat) (w : World) (p k : Nat) (M : DK) : Prop := (∃ g, DD g k w (fun x => w0.heap.size ≤ x ∧ (x < a ∨ b ≤ x)) p M) ∧ Below w0.heap.size w0 w ∧ b ≤ w.heap.size
theorem LD.apart {w0 w w' : World} {p k : Nat} {M : DK} (h : LD w0 w p k M) (hb : Below w.heap.size w w') : LX w0 w.heap.size w'.heap.size w' p k M := by
  obtain ⟨⟨g, hd⟩, h2⟩ := h
  exact ⟨⟨g, hd.move g.rl (fun x h1 h3 => ⟨hb.block x h3, ⟨h1, .inl h3⟩, rfl⟩)⟩, h2.trans (hb.mono h2.size), Nat.le_refl _⟩
theorem LX.did {w0 w w' : World} {a b p k q : Nat} {N : DK × Int} {M : DK} {e : Ending} (h : LX w0 a b w p k M) {F : Nat → Prop} (hF : ∀ x, F x → w0.heap.size ≤ x ∧ (x < a ∨ b ≤ x)) (ht : Tells (Did q F p w N) e w') :
    e = .returned (.int .i64 N.2) ∧ LX w0 a b w' p q N.1 ∧ Kp F w w' := by
  obtain ⟨v, rfl, rfl, ⟨g, hd⟩, hk⟩ := ht
  have hs := hk.size
  exact ⟨rfl, ⟨⟨g, hd.refoot (fun x hx _ => hF x hx)⟩, h.2.1.trans (hk.below (fun x hx => (hF x hx).1) h.2.1.size), by have := h.2.2; omega⟩, hk⟩
theorem LX.ld {w0 w : World} {a b p k : Nat} {M : DK} (h : LX w0 a b w p k M) : LD w0 w p k M := by
  obtain ⟨⟨g, hd⟩, h2, -⟩ := h
  exact ⟨⟨g, hd.refoot (fun x hx _ => hx.1)⟩, h2⟩
set_option maxHeartbeats 4000000 in
theorem shown8_is (w : World) : Calls Try.prog 9 #[] w fun e w' => e = .returned (.bool true) ∧ Below w.heap.size w w' := by
  have hconv2 := fun wx => Lib.run_convert_bytes_const (P := Try.prog) wx 28 5 #[.int .u8 120, .int .u8 121] 2 2 Try.underlying28 Try.underlying5
  have hconv1 := fun wx => Lib.run_convert_bytes_const (P := Try.prog) wx 28 5 #[.int .u8 122] 1 1 Try.underlying28 Try.underlying5
  have hN := Lib.hid (new_l w 9 (by unfold maxI; omega))
  go_enter Try.func9, Try.ntmps9
  go_wp2_with fail
  refine hN.out.mono ?_
  rintro e w1 ⟨p, rfl, hL⟩
  have h1 := Lib.hid hL
  clear hL
  go_wp2_with fail
  refine (create_l h1.out (by omega) sA (by decide)).mono ?_
  rintro e w2 hL
  obtain ⟨rfl, hL⟩ := hL
  have h2 := Lib.hid hL
  clear hL
  go_wp2_with fail
  refine (append_n h2.out (by omega) ((Below.refl _ _).alloc (Nat.le_refl _) _) sA (by decide) (some ⟨w2.heap.size, 0, none⟩) 2 2 [120, 121] (bvC w2 [120, 121] 2 _ _ _ rfl rfl (by decide)) (by omega) (by omega) (fun x hx => by cases hx; exact ⟨Nat.le_refl _, by simp⟩)).mono ?_
  rintro e w3 hL
  obtain ⟨rfl, hL⟩ := hL
  have h3 := Lib.hid hL
  clear hL
  go_wp2_with fail
  refine (sync_l h3.out (by omega) sA (by decide)).mono ?_
  rintro e w4 hL
  obtain ⟨rfl, hL⟩ := hL
  have h4 := Lib.hid hL
  clear hL
  go_wp2_with fail
  refine (crash_nil h4.out (by omega) 0).mono ?_
  rintro e w5 ⟨qc, rfl, hc5, hp5⟩
  have HC5 := Lib.hid (And.intro (Idle.of hc5) (h4.out.apart hc5.2))
  have HS45 := Lib.hid hc5.2.size
  clear hc5 hp5
  go_wp2_with fail
  have hx5 := HC5.out.2
  obtain ⟨⟨g5, hd5⟩, hb5, hs5⟩ := id hx5
  refine (syncDir_any g5 _ w5 _ p _ (by omega) (fun b hb => ⟨Nat.le_trans hb5.size hb, .inr (Nat.le_trans hs5 hb)⟩) hd5).mono ?_
  intro e w6 ht
  obtain ⟨rfl, hx6, hk6⟩ := hx5.did (fun _ h => h) ht
  have HC6 := Lib.hid (And.intro (HC5.out.1.keep hk6 (fun x h1 h2 h3 => by rcases h3.2 with h | h <;> omega)) hx6)
  clear hx5 hd5 hb5 hs5 ht hx6 hk6
  go_wp2_with fail
  have hx6 := HC6.out.2
  have hw7 : Below w6.heap.size w6 (w6.alloc (.cells #[.int .u8 122] 5 (1, 2))) := (Below.refl _ _).alloc (Nat.le_refl _) _
  have hi7 := HC6.out.1.below hw7
  obtain ⟨⟨g6, hd6⟩, hb6, hs6⟩ := id hx6
  have hs7 : (w6.alloc (.cells #[.int .u8 122] 5 (1, 2))).heap.size = w6.heap.size + 1 := by simp
  have hx7 : LX w w4.heap.size w5.heap.size (w6.alloc (.cells #[.int .u8 122] 5 (1, 2))) p _ _ := ⟨⟨g6, hd6.below hw7⟩, hb6.trans (hw7.mono hb6.size), by omega⟩
  have hd7 := hd6.move (w' := w6.alloc (.cells #[.int .u8 122] 5 (1, 2))) (F' := fun x => (w.heap.size ≤ x ∧ (x < w4.heap.size ∨ w5.heap.size ≤ x)) ∧ (x < w6.heap.size ∨ (w6.alloc (.cells #[.int .u8 122] 5 (1, 2))).heap.size ≤ x)) g6.rl (fun x h1 h2 => ⟨hw7.block x h2, ⟨h1, .inl h2⟩, rfl⟩)
  refine (append_any _ _ _ _ p _ (by omega) (fun b hb => ⟨⟨by have := hb6.size; omega, .inr (by omega)⟩, .inr hb⟩) hd7 sA (by decide) (some ⟨w6.heap.size, 0, none⟩) 1 1 [122] (bvC w6 [122] 1 _ _ _ rfl rfl (by decide)) (by omega) (by omega) (.inr (fun x hx hl => by cases hx; have h1 := hl.2; simp at h1; omega))).mono ?_
  intro e w8 ht
  obtain ⟨rfl, hx8, hk8⟩ := hx7.did (fun _ h => h.1) ht
  have HC8 := Lib.hid (And.intro (hi7.keep hk8 (fun x h1 h2 h3 => by rcases h3.1.2 with h | h <;> omega)) hx8.ld)
  clear hx6 hw7 hi7 hd6 hb6 hs6 hs7 hx7 hd7 ht hx8 hk8 HC5 HC6
  go_wp2_with fail
  refine (crash_nil HC8.out.2 (by omega) 0).mono ?_
  rintro e w9 ⟨qe, rfl, he9, hp9⟩
  have HC9 := Lib.hid (And.intro (HC8.out.1.below he9.2) (And.intro he9 (HC8.out.2.2.trans (he9.2.mono HC8.out.2.2.size))))
  clear he9 hp9 HC8
  go_wp2_with fail
  refine (read_l HC9.out.2.1 (by omega) sA (by decide)).mono ?_
  intro e w10 hr
  have hr2 : ReadE w9 w10 ([120, 121], 0) e := by rw [← sh_r]; exact hr
  obtain ⟨v, rfl, hv10, hb10⟩ := hr2
  obtain ⟨a, c, rfl, -, -, hbv, -⟩ := hv10.bvn (by decide) 2 rfl
  have HC10 := Lib.hid (And.intro (HC9.out.1.below hb10) (And.intro (HC9.out.2.1.below hb10) (And.intro hbv (HC9.out.2.2.trans (hb10.mono HC9.out.2.2.size)))))
  clear hr hv10 hb10 hbv
  go_wp2_with fail
  obtain ⟨gc, hdc⟩ := HC10.out.1
  refine (names_any gc _ w10 _ qc _ (by omega) hdc).mono ?_
  rintro e w11 ⟨vc, rfl, hoc, hb11⟩
  obtain ⟨a2, c2, rfl, -⟩ := hoc.shape
  have hl0 : (crashD (syncD (appendD (createD (newD 9) sA).1 sA [120, 121]).1 sA).1 0 []).names.length = 0 := sh_c
  rw [hl0]
  have HC11 := Lib.hid (And.intro (HC10.out.2.1.below hb11) (And.intro (HC10.out.2.2.1.other (fun x hx hl => hb11.block _ hl)) (HC10.out.2.2.2.trans (hb11.mono HC10.out.2.2.2.size))))
  clear hoc hb11 hl0 hdc
  go_wp2_with fail
  refine (names_l HC11.out.1 (by omega)).mono ?_
  rintro e w12 ⟨ve, rfl, hoe, hb12⟩
  obtain ⟨a3, c3, rfl, -⟩ := hoe.shape
  have hl1 : (crashD (appendD (syncDirD (syncD (appendD (createD (newD 9) sA).1 sA [120, 121]).1 sA).1).1 sA [122]).1 0 []).names.length = 1 := sh_e
  rw [hl1]
  have hcv := conv_any (HC11.out.2.1.other (w' := w12) (fun x hx hl => hb12.block _ hl)) c
  rw [show strOfNums [120, 121] = { data := #[120, 121] } from rfl] at hcv
  have HB := Lib.hid (HC11.out.2.2.trans (hb12.mono HC11.out.2.2.size))
  clear hoe hb12 hl1
  go_wp2_with fail
  go_ret
  exact ⟨rfl, HB.out⟩
end Go.Proofs.Ytlagmjdldplblaa
