/-
  Rows of rules: what may be read, and what the call itself has made.
-/
import Derived.Test.YtmhbbjbbckdlbaaDoorCPure
import Derived.Test.YtmhbbjbbckdlbaaDoorQrow
import Derived.Laws.AppendOwn
namespace Go.Proofs.YtmhbbjbbckdlbaaDoor
open Go.RowKit
set_option maxRecDepth 100000
set_option linter.unusedVariables false

def RArr (w : World) (P : Nat → Prop) (A : Option Addr) (c : Nat) (R : List Rl) : Prop :=
  R.length ≤ c ∧ c ≤ maxLen ∧ (A = none → c = 0) ∧
    (0 < R.length → ∃ b o, A = some ⟨b, o, none⟩ ∧ P b ∧ ∀ (j : Nat) (r : Rl), R[j]? = some r → w.cell? ⟨b, o + j * 4, none⟩ = some (.float .f64 r.s) ∧ w.cell? ⟨b, o + j * 4 + 1, none⟩ = some (.int .i64 r.l) ∧
      w.cell? ⟨b, o + j * 4 + 2, none⟩ = some (.int .i64 r.b) ∧ w.cell? ⟨b, o + j * 4 + 3, none⟩ = some (.int .i64 r.t))

section
variable {w w' : World} {P P' : Nat → Prop} {A : Option Addr} {c : Nat} {R : List Rl}
theorem RArr.at_ (h : RArr w P A c R) {j : Nat} {r : Rl} (hj : R[j]? = some r) : ∃ b o, A = some ⟨b, o, none⟩ ∧ P b ∧ b < w.heap.size ∧ w.cell? ⟨b, o + j * 4, none⟩ = some (.float .f64 r.s) ∧ w.cell? ⟨b, o + j * 4 + 1, none⟩ = some (.int .i64 r.l) ∧
      w.cell? ⟨b, o + j * 4 + 2, none⟩ = some (.int .i64 r.b) ∧ w.cell? ⟨b, o + j * 4 + 3, none⟩ = some (.int .i64 r.t) := by
  obtain ⟨b, o, hA, hb, hc⟩ := h.2.2.2 (by have := gt_lt hj; omega)
  exact ⟨b, o, hA, hb, cell_lt (hc j r hj).1, hc j r hj⟩
theorem RArr.keep (h : RArr w P A c R) (hk : ∀ b o, P b → w'.cell? ⟨b, o, none⟩ = w.cell? ⟨b, o, none⟩) : RArr w' P A c R := by
  refine ⟨h.1, h.2.1, h.2.2.1, fun hn => ?_⟩
  obtain ⟨b, o, hA, hb, hc⟩ := h.2.2.2 hn
  exact ⟨b, o, hA, hb, fun j i hj => ⟨(hk _ _ hb).trans (hc j i hj).1, (hk _ _ hb).trans (hc j i hj).2.1, (hk _ _ hb).trans (hc j i hj).2.2.1, (hk _ _ hb).trans (hc j i hj).2.2.2⟩⟩
theorem RArr.mono (h : RArr w P A c R) (hp : ∀ b, P b → P' b) : RArr w P' A c R := by
  refine ⟨h.1, h.2.1, h.2.2.1, fun hn => ?_⟩
  obtain ⟨b, o, hA, hb, hc⟩ := h.2.2.2 hn
  exact ⟨b, o, hA, hp b hb, hc⟩
theorem RArr.nil (w : World) (P : Nat → Prop) : RArr w P none 0 [] := ⟨by simp, by simp, fun _ => rfl, fun h => absurd h (by simp)⟩
theorem RArr.below {B : Nat} (h : RArr w (Lt B) A c R) (hb : Below B w w') : RArr w' (Lt B) A c R := h.keep fun b o hp => hb.cell hp
theorem RArr.next (h : RArr w (Lt w.heap.size) A c R) (hb : Below w.heap.size w w') : RArr w' (Lt w'.heap.size) A c R := (h.below hb).mono fun b hp => Nat.lt_of_lt_of_le hp hb.size
theorem RArr.lt (h : RArr w P A c R) : RArr w (Lt w.heap.size) A c R := by
  refine ⟨h.1, h.2.1, h.2.2.1, fun hn => ?_⟩
  obtain ⟨b, o, hA, hb, hc⟩ := h.2.2.2 hn
  refine ⟨b, o, hA, ?_, hc⟩
  obtain ⟨i, hi⟩ := gt_of hn
  exact cell_lt (hc 0 i hi).1
theorem RArr.take (h : RArr w P A c R) (k : Nat) : RArr w P A c (R.take k) := by
  refine ⟨Nat.le_trans (by simp; omega) h.1, h.2.1, h.2.2.1, fun hn => ?_⟩
  obtain ⟨b, o, hA, hb, hc⟩ := h.2.2.2 (by simp at hn; omega)
  refine ⟨b, o, hA, hb, fun j r hj => hc j r ?_⟩
  rw [List.getElem?_take] at hj
  split at hj
  · exact hj
  · cases hj
end

def rulCells (R : List Rl) : List Value := R.flatMap fun r => [.float .f64 r.s, .int .i64 r.l, .int .i64 r.b, .int .i64 r.t]
theorem rulCells_cons (r : Rl) (R : List Rl) : rulCells (r :: R) = [.float .f64 r.s, .int .i64 r.l, .int .i64 r.b, .int .i64 r.t] ++ rulCells R := rfl
theorem rulCells_length : ∀ R : List Rl, (rulCells R).length = R.length * 4
  | [] => rfl
  | i :: I => by
    have := rulCells_length I
    rw [rulCells_cons, List.length_append, this]
    simp
    omega
theorem rulCells_one (R : List Rl) : ∀ u ∈ rulCells R, u.oneCell' = true := by
  intro u hu
  simp only [rulCells, List.mem_flatMap] at hu
  obtain ⟨i, _, hu⟩ := hu
  simp at hu
  rcases hu with rfl | rfl | rfl | rfl <;> rfl
theorem rulCells_append (R S : List Rl) : rulCells (R ++ S) = rulCells R ++ rulCells S := by simp [rulCells]
theorem rulCells_get : ∀ (R : List Rl) (t : Nat) (r : Rl), R[t]? = some r →
    (rulCells R)[t * 4]? = some (.float .f64 r.s) ∧ (rulCells R)[t * 4 + 1]? = some (.int .i64 r.l) ∧ (rulCells R)[t * 4 + 2]? = some (.int .i64 r.b) ∧ (rulCells R)[t * 4 + 3]? = some (.int .i64 r.t)
  | [], t, i, h => by simp at h
  | x :: I, 0, i, h => by
    simp at h
    subst h
    exact ⟨rfl, rfl, rfl, rfl⟩
  | x :: I, t + 1, i, h => by
    have ih := rulCells_get I t i (by simpa using h)
    have key : ∀ d, (rulCells (x :: I))[(t + 1) * 4 + d]? = (rulCells I)[t * 4 + d]? := fun d => by
      rw [rulCells_cons, List.getElem?_append_right (by simp; omega)]
      congr 1
      simp
      omega
    exact ⟨(key 0).trans ih.1, (key 1).trans ih.2.1, (key 2).trans ih.2.2.1, (key 3).trans ih.2.2.2⟩
/-- A cell of a row that is changed. -/
theorem rulCells_set : ∀ (R : List Rl) (t : Nat) (r y : Rl) (d : Nat) (u : Value), R[t]? = some r → d < 4 → ([Value.float .f64 r.s, .int .i64 r.l, .int .i64 r.b, .int .i64 r.t].set d u = [.float .f64 y.s, .int .i64 y.l, .int .i64 y.b, .int .i64 y.t]) →
    (rulCells R).set (t * 4 + d) u = rulCells (R.set t y)
  | [], t, r, y, d, u, h, _, _ => by simp at h
  | x :: I, 0, r, y, d, u, h, hd, e => by
    simp at h
    subst h
    rw [List.set_cons_zero, rulCells_cons, rulCells_cons, List.set_append_left _ _ (by simp; omega), ← e]
    simp
  | x :: I, t + 1, r, y, d, u, h, hd, e => by
    have ih := rulCells_set I t r y d u (by simpa using h) hd e
    rw [List.set_cons_succ, rulCells_cons, rulCells_cons, ← ih, List.set_append_right _ _ (by simp; omega)]
    congr 2
    simp
    omega
/-- The cells of a row, as a source of append. -/
theorem RArr.cells {w : World} {P : Nat → Prop} {b o c : Nat} {R : List Rl} (h : RArr w P (some ⟨b, o, none⟩) c R) : ∀ (j : Nat) (u : Value), (rulCells R)[j]? = some u → w.cell? ((⟨b, o, none⟩ : Addr).add j) = some u := by
  intro j u hu
  have hj := gt_lt hu
  rw [rulCells_length] at hj
  obtain ⟨i, hi⟩ := gt_of (l := R) (j := j / 4) (by omega)
  obtain ⟨b', o', e, _, _, c0, c1, c2, c3⟩ := h.at_ hi
  injection e with e
  injection e with e1 e2
  subst e1 e2
  obtain ⟨d0, d1, d2, d3⟩ := rulCells_get R _ i hi
  rw [add_at]
  rcases (by omega : j = j / 4 * 4 ∨ j = j / 4 * 4 + 1 ∨ j = j / 4 * 4 + 2 ∨ j = j / 4 * 4 + 3) with e | e | e | e
  · rw [e] at hu ⊢
    rw [c0, ← hu]; exact d0.symm
  · rw [e] at hu ⊢
    rw [← Nat.add_assoc, c1, ← hu]; exact d1.symm
  · rw [e] at hu ⊢
    rw [← Nat.add_assoc, c2, ← hu]; exact d2.symm
  · rw [e] at hu ⊢
    rw [← Nat.add_assoc, c3, ← hu]; exact d3.symm
/-- A row of rules of the call's own. -/
def ROwn (w : World) (B : Nat) (v : Value) (R : List Rl) : Prop := w.ownsRow B 63 4 v R.length (rulCells R)
theorem ROwn.slice {w : World} {B : Nat} {v : Value} {R : List Rl} (h : ROwn w B v R) : ∃ A c, v = .slice A R.length c ∧ RArr w (Rng B w.heap.size) A c R := by
  obtain ⟨hl, h⟩ := h
  rcases h with ⟨rfl, hz⟩ | ⟨g, cap, cur, rfl, hb, hg, hc, hm, hs, htk⟩
  · have hz2 : R = [] := List.length_eq_zero_iff.1 hz
    subst hz2
    exact ⟨none, 0, rfl, RArr.nil _ _⟩
  · refine ⟨_, _, rfl, hc, hm, (fun e => by cases e), fun _ => ⟨g, 0, rfl, ⟨hb, blk_lt hg⟩, fun j i hj => ?_⟩⟩
    have hjl := gt_lt hj
    obtain ⟨c0, c1, c2, c3⟩ := rulCells_get R j i hj
    have key : ∀ (d : Nat) (v : Value), d < 4 → (rulCells R)[j * 4 + d]? = some v → w.cell? ⟨g, 0 + j * 4 + d, none⟩ = some v := by
      intro d v hd hv
      rw [← htk, List.getElem?_take, if_pos (by omega)] at hv
      rw [cell_row hg, Nat.zero_add]
      simpa using hv
    exact ⟨key 0 _ (by omega) c0, key 1 _ (by omega) c1, key 2 _ (by omega) c2, key 3 _ (by omega) c3⟩
/-- Where an own row of rules lies, and what a store into it leaves. -/
theorem ROwn.put {w : World} {B : Nat} {v : Value} {R : List Rl} (h : ROwn w B v R) {t : Nat} {r : Rl} (ht : R[t]? = some r) :
    ∃ g cap, v = .slice (some ⟨g, 0, none⟩) R.length cap ∧ B ≤ g ∧ g < w.heap.size ∧ (∀ i, w.frozen? ⟨g, i, none⟩ = false) ∧ w.cell? ⟨g, t * 4, none⟩ = some (.float .f64 r.s) ∧ w.cell? ⟨g, t * 4 + 1, none⟩ = some (.int .i64 r.l) ∧ w.cell? ⟨g, t * 4 + 2, none⟩ = some (.int .i64 r.b) ∧ w.cell? ⟨g, t * 4 + 3, none⟩ = some (.int .i64 r.t) ∧
      ∀ (y : Rl) (d : Nat) (u : Value), d < 4 → ([Value.float .f64 r.s, .int .i64 r.l, .int .i64 r.b, .int .i64 r.t].set d u = [.float .f64 y.s, .int .i64 y.l, .int .i64 y.b, .int .i64 y.t]) → ROwn (w.setCell ⟨g, t * 4 + d, none⟩ u) B v (R.set t y) := by
  have htl := gt_lt ht
  obtain ⟨A, c, e0, hr⟩ := h.slice
  obtain ⟨hl, h⟩ := h
  rcases h with ⟨rfl, hz⟩ | ⟨g, cap, cur, rfl, hb, hg, hc, hm, hs, htk⟩
  · omega
  · injection e0 with e0 _ e1
    subst e0 e1
    obtain ⟨b, o, e, _, _, c0, c1, c2, c3⟩ := hr.at_ ht
    injection e with e
    injection e with e e2
    subst e e2
    rw [Nat.zero_add] at c0 c1 c2 c3
    refine ⟨g, cap, rfl, hb, blk_lt hg, fun i => free_row hg, c0, c1, c2, c3, fun y d u hd he => ?_⟩
    refine ⟨by rw [rulCells_length], .inr ⟨g, cap, cur.setIfInBounds (t * 4 + d) u, by rw [List.length_set], hb, ?_, by rw [List.length_set]; exact hc, hm, by simpa using hs, ?_⟩⟩
    · simp [World.setCell, Array.getElem?_modify, hg]
    · rw [← rulCells_set R t r y d u ht hd he, ← htk, Array.toList_setIfInBounds, List.length_set]
      rw [List.take_set]
theorem ROwn.keep {w w' : World} {B : Nat} {v : Value} {R : List Rl} (h : ROwn w B v R) (hk : ∀ g, B ≤ g → g < w.heap.size → w'.heap[g]? = w.heap[g]?) : ROwn w' B v R := by
  obtain ⟨hl, h⟩ := h
  refine ⟨hl, h.imp id fun ⟨g, cap, cur, h1, h2, h3, h4⟩ => ⟨g, cap, cur, h1, h2, (hk g h2 (blk_lt h3)).trans h3, h4⟩⟩
theorem ROwn.next {w w' : World} {B : Nat} {v : Value} {R : List Rl} (h : ROwn w B v R) (hb : Below w.heap.size w w') : ROwn w' B v R := h.keep fun g _ hg => hb.block g hg
theorem ROwn.nil (w : World) (B : Nat) : ROwn w B (.slice none 0 0) [] := World.ownsRow_nil _ _ _ _
theorem rule_info : (Tryd.prog.info? 63).map (fun i => (i.zero, i.size, i.bytes)) = some (some (.agg #[.float .f64 0, .int .i64 0, .int .i64 0, .int .i64 0]), 4, 32) := by kernel_rfl
end Go.Proofs.YtmhbbjbbckdlbaaDoor
