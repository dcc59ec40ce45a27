/- Contracts of package texts: the closure within Dict. -/
import Derived.Test.YtmoppmifhhnolaaT6a
namespace Go.Proofs.Ytmoppmifhhnolaa
open Go.ChangeShapes Go.WideShapes Go.ChangeAt Go.RowKit
set_option linter.unusedVariables false

theorem mtSI : MT 47 9 3 .i64 where
  map := Try.underlying47
  key := Try.underlying9
  el := Try.underlying3
  zero := fun w => by go_simp
  wf := fun n hn => by
    have h1 : IntKind.i64.min = -9223372036854775808 := by decide
    have h2 : IntKind.i64.max = 9223372036854775807 := by decide
    simp [Lit.wf]; omega
theorem OS.ownLow {k : Nat} {w : World} {base : Nat} {v : Value} {n : Nat} {cs : List Value} (h : OS k w base v n cs) {b : Nat} (hb : v.ownBlock = some b) : base ≤ b ∧ b < w.heap.size := by
  rcases h.2.2 with ⟨rfl, _⟩ | ⟨g, cap, cur, T, rfl, hg, hh, _⟩
  · cases hb
  · cases hb; exact ⟨hg, heap_lt hh⟩
theorem OW.ownLow {w : World} {base : Nat} {v : Value} {bs : List Int} (h : OW w base v bs) {b : Nat} (hb : v.ownBlock = some b) : base ≤ b ∧ b < w.heap.size := OS.ownLow h.os hb
/-- what the closure and its maker share: three blocks, and the unlike texts -/
def DS (h0 : Nat) (w : World) (v : Value) (ws : List ByteArray) : Prop :=
  Bk w h0 #[v] 22 ∧ Bk w (h0 + 2) #[.map (some (h0 + 1))] 47 ∧ MapWs 9 3 .i64 w (h0 + 1) ws ∧ OS 1 w (h0 + 3) v ws.length (tcells ws) ∧ h0 + 3 ≤ w.heap.size
/-- what the closure tells -/
def PlaceE (h0 : Nat) (w w' : World) (v : Value) (ws : List ByteArray) (s : ByteArray) (e : Ending) : Prop :=
  ∃ v', e = .returned (.int .i64 (placeB ws s : Int)) ∧ DS h0 w' v' (addW ws s) ∧ Below h0 w w' ∧ (v'.ownBlock = v.ownBlock ∨ ∃ g, v'.ownBlock = some g ∧ w.heap.size ≤ g) ∧ (∀ b, h0 + 3 ≤ b → b < w.heap.size → v.ownBlock ≠ some b → w'.heap[b]? = w.heap[b]?)
set_option maxHeartbeats 1000000 in
theorem place_any (h0 : Nat) (v : Value) (ws : List ByteArray) (s : ByteArray) (w : World) (hd : DS h0 w v ws) (hs : s.size ≤ 200) (hn : ws.length ≤ 2000) :
    Calls Try.prog 27 #[.string s, .pointer (some ⟨h0 + 2, 0, none⟩), .pointer (some ⟨h0, 0, none⟩)] w fun e w' => PlaceE h0 w w' v ws s e := by
  have HD := Lib.hid hd
  obtain ⟨b3, b4, hm, ho, hsz⟩ := hd
  have hmx : s.size ≤ maxLen := by unfold maxLen; omega
  have hlook := hm.look_ok mtSI hmx
  have c4 := b4.cell 0 (v := .map (some (h0 + 1))) rfl
  by_cases hs1 : s ∈ ws
  · have ht := there_iff.2 hs1
    have hp : Hid (lookV ws s = (placeB ws s : Int)) := Lib.hid (by rw [lookV, if_pos ht])
    have HA : Hid (addW ws s = ws) := Lib.hid (by rw [addW, if_pos ht])
    rw [ht] at hlook
    clear ht b3 b4 hm ho hs1
    go_enter Try.func27, Try.ntmps27
    go_wp2_with fail
    go_ret
    exact ⟨v, ret_int hp.out, by rw [HA.out]; exact HD.out, Below.refl _ _, .inl rfl, fun _ _ _ _ => rfl⟩
  · have ht := there_not.2 hs1
    rw [ht] at hlook
    have HP : Hid (placeB ws s = ws.length) := Lib.hid (place_not hs1)
    have HA : Hid (addW ws s = ws ++ [s]) := Lib.hid (by rw [addW, if_neg (by rw [ht]; decide)])
    obtain ⟨a0, k0, rfl⟩ := ho.shape
    have c3 := b3.cell 0 (v := .slice a0 ws.length k0) rfl
    obtain ⟨w1, hrun, hm1, hg⟩ := hm.store mtSI hmx hs1 (by omega) rfl
    have hsz1 := hg.size
    have b31 : Bk w1 h0 #[.slice a0 ws.length k0] 22 := (grown_block hg (by omega) (by omega)).trans b3
    have b41 : Bk w1 (h0 + 2) #[.map (some (h0 + 1))] 47 := (grown_block hg (by omega) (by omega)).trans b4
    have hbk := fun b hb => ho.ownLow (b := b) hb
    have ho1 : OS 1 w1 (h0 + 3) (.slice a0 ws.length k0) ws.length (tcells ws) := ho.same (fun g hg1 hlt => grown_block hg hlt (fun e => by have := hbk g hg1; omega))
    have hb1 : Below h0 w w1 := grown_below hg (by omega) (by omega)
    have HG := Lib.hid (fun b (hb : b < w.heap.size) (hne : b ≠ h0 + 1) => grown_block hg hb hne)
    have c31 := b31.cell 0 (v := .slice a0 ws.length k0) rfl
    have hone : SV 1 (w1.alloc (.cells #[.string s] 9)) (some ⟨w1.heap.size, 0, none⟩) 1 (tcells [s]) := SV.lit (k := 1) w1 (tcells [s]) 1 9 rfl (tcells_one _)
    have b32 := b31.alloc (.cells #[.string s] 9)
    have b42 := b41.alloc (.cells #[.string s] 9)
    have ho2 := ho1.alloc (.cells #[.string s] 9)
    have hm2 := hm1.alloc (.cells #[.string s] 9)
    have hb2 := hb1.alloc (by omega) (.cells #[.string s] 9)
    have hs2 : w1.heap.size < (w1.alloc (.cells #[.string s] 9)).heap.size := by simp
    clear ht hs1 hg b31 b41 hm1 ho1 hb1 b3 b4 ho hm
    go_enter Try.func27, Try.ntmps27
    go_wp2_with (at_builtin; refine append_os2 el_texts rfl (.tmp 20) (.tmp 22) rfl (h0 + 3) _ ws.length (tcells ws) rfl ho2 _ 1 1 _ rfl hone (by omega) (by omega) (by omega) ?_; intro v3 w3 ho3 hb3 ob3 hk3; have HK : Hid (∀ b, b < (w1.alloc (.cells #[.string s] 9)).heap.size → (Value.slice a0 ws.length k0).ownBlock ≠ some b → w3.heap[b]? = (w1.alloc (.cells #[.string s] 9)).heap[b]?) := Lib.hid hk3; have HO : Hid (v3.ownBlock = (Value.slice a0 ws.length k0).ownBlock ∨ v3.ownBlock = some (w1.alloc (.cells #[.string s] 9)).heap.size) := Lib.hid ob3; clear hk3 ob3; obtain ⟨a3, k3, rfl⟩ := ho3.shape; have b33 : Bk w3 h0 _ _ := b32.low hb3 (by omega); have c33 := b33.cell 0 (v := .slice a0 ws.length k0) rfl; have f33 := b33.free 0)
    go_ret
    have b43 := b42.low hb3 (by omega)
    have hm3 : MapWs 9 3 .i64 w3 (h0 + 1) (ws ++ [s]) := hm2.same (hb3.block _ (by omega))
    refine ⟨.slice a3 (ws.length + 1) k3, ret_int (by rw [HP.out]), ?_, (hb2.trans (hb3.mono (by omega))).setCell (by simp) _, ?_, ?_⟩
    · rw [HA.out]
      refine ⟨b33.set 0 _, b43.other (by omega) _, hm3.set (by omega) _, ?_, by rw [size_set]; have := hb3.size; omega⟩
      rw [List.length_append, List.length_singleton, tcells_app]
      exact ho3.set (by omega) _
    · rcases HO.out with h | h
      · exact .inl h
      · exact .inr ⟨_, h, by omega⟩
    · intro b hb1 hb2 hne
      rw [Below.heap_setCell _ _ _ _ (show b ≠ h0 by omega), HK.out b (by omega) hne, heap_alloc_old _ _ (by omega), HG.out b hb2 (by omega)]
end Go.Proofs.Ytmoppmifhhnolaa
