/-
  The reference's reader: take, number.
-/
import Derived.Test.YtodnicaidmilkaaDoorNDig
import Derived.BigQuiet
namespace Go.Proofs.YtodnicaidmilkaaDoor
open Go.RowKit
set_option maxRecDepth 100000
set_option linter.unusedVariables false

theorem fixP_iff (t L : List Nat) : t.isPrefixOf L = true ↔ t.length ≤ L.length ∧ L.take t.length = t := by
  rw [List.isPrefixOf_iff_prefix]
  constructor
  · rintro ⟨K, rfl⟩
    exact ⟨by simp, by simp⟩
  · rintro ⟨_, h⟩
    exact ⟨L.drop t.length, by
      have := List.take_append_drop t.length L
      rw [h] at this
      exact this⟩
/-- What take leaves: the rest, or that the text is bad. -/
def tkS (t L : List Nat) : List Nat := match fixP t L with
  | some K => K
  | none => L
def tkB (t L : List Nat) (b : Bool) : Bool := match fixP t L with
  | some _ => b
  | none => true
theorem tk_no {t L : List Nat} (h : ¬ t.isPrefixOf L = true) (b : Bool) : tkS t L = L ∧ tkB t L b = true := by
  unfold tkS tkB fixP
  rw [if_neg h]
  exact ⟨rfl, rfl⟩
theorem tk_yes {t L : List Nat} (h : t.isPrefixOf L = true) (b : Bool) : tkS t L = L.drop t.length ∧ tkB t L b = b := by
  unfold tkS tkB fixP
  rw [if_pos h]
  exact ⟨rfl, rfl⟩
def RdOf (w : World) (rd : Nat) (v : Value) (L : List Nat) (b : Bool) (e : Ending) (w' : World) : Prop := e = .returned v ∧ Blk w' rd 65 #[.string (tx L), .bool b] ∧ w.grownBy w' (some rd)
set_option maxHeartbeats 2000000 in
theorem take_any (rd : Nat) (t L : List Nat) (b : Bool) (w : World) (ht : Byt t) (hL : Byt L) (hl : L.length ≤ 1024) (hB : Blk w rd 65 #[.string (tx L), .bool b]) :
    Calls Tryd.prog 28 #[.pointer (some ⟨rd, 0, none⟩), .string (tx t)] w (RdOf w rd (.tuple #[]) (tkS t L) (tkB t L b)) := by
  have q0 := hB.cell 0
  have q1 := hB.cell 1
  have z0 := hB.frozen 0
  have z1 := hB.frozen 1
  simp at q0 q1
  have s1 := tx_size L
  have s2 := tx_size t
  have HBB := Lib.hid hB
  have gr : Hid (∀ i u, w.grownBy (w.setCell ⟨rd, i, none⟩ u) (some rd)) := Lib.hid fun i u => turn_set (turn_below (Below.refl _ _)) i u
  by_cases h1 : (L.length : Int) < t.length
  · obtain ⟨e1, e2⟩ := tk_no (t := t) (L := L) (fun h => by have := ((fixP_iff t L).1 h).1; omega) b
    rw [e1, e2]
    clear e1 e2 hB
    go_enter Tryd.func28, Tryd.ntmps28
    go_wp2_with fail
    exact bodyPost_ret (v := .tuple #[]) (by simp [results, Tryd.results28]) rfl ⟨rfl, HBB.out.set_ 1 _, gr.out _ _⟩
  · have hx : (tx L).extract 0 t.length = tx (L.take t.length) := by rw [tx_extract]; simp
    have hx2 : (tx L).extract t.length L.length = tx (L.drop t.length) := by
      rw [tx_extract, List.take_of_length_le (by simp)]
    have hq := tx_eq (hL.take t.length) ht
    by_cases h2 : L.take t.length = t
    · obtain ⟨e1, e2⟩ := tk_yes (t := t) (L := L) ((fixP_iff t L).2 ⟨by omega, h2⟩) b
      rw [e1, e2]
      rw [decide_eq_true h2] at hq
      have h3 : ¬ (L.length : Int) < t.length := h1
      have HX := Lib.hid h2
      clear e1 e2 hB h2
      go_enter Tryd.func28, Tryd.ntmps28
      go_wp2_with fail
      exact bodyPost_ret (v := .tuple #[]) (by simp [results, Tryd.results28]) rfl ⟨rfl, HBB.out.set_ 0 _, gr.out _ _⟩
    · obtain ⟨e1, e2⟩ := tk_no (t := t) (L := L) (fun h => h2 ((fixP_iff t L).1 h).2) b
      rw [e1, e2]
      rw [decide_eq_false h2] at hq
      clear e1 e2 hB h2
      go_enter Tryd.func28, Tryd.ntmps28
      go_wp2_with fail
      exact bodyPost_ret (v := .tuple #[]) (by simp [results, Tryd.results28]) rfl ⟨rfl, HBB.out.set_ 1 _, gr.out _ _⟩
end Go.Proofs.YtodnicaidmilkaaDoor
