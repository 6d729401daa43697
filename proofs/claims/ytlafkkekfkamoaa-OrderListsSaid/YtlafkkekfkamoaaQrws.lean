/-
  Belts of the call's own, each row in a block of its own; copies: slices.Clone, clone of package belt, Copy of the reference.
-/
import Derived.Test.YtlafkkekfkamoaaQval
import Derived.Lib.SliceRun
namespace Go.Proofs.Ytlafkkekfkamoaa
open Go.RowKit
set_option maxRecDepth 100000
set_option linter.unusedVariables false

theorem row_t {w : World} {base s n g : Nat} {t : TypeId} {v : Value} {xs : List Value} (h : w.ownsRow base t s v n xs) (hg : v.ownBlock = some g) : ∃ cur, w.heap[g]? = some (.cells cur t (0, 0)) ∧ base ≤ g := by
  obtain ⟨_, ⟨rfl, _⟩ | ⟨g', cap, cur, rfl, hb, hh, _⟩⟩ := h
  · simp [Value.ownBlock] at hg
  · simp [Value.ownBlock] at hg
    subst hg
    exact ⟨cur, hh, hb⟩
theorem ownsRow_lower {w : World} {B B' s n : Nat} {e : TypeId} {v : Value} {xs : List Value} (h : w.ownsRow B e s v n xs) (hb : B' ≤ B) : w.ownsRow B' e s v n xs :=
  ⟨h.1, h.2.imp id fun ⟨g, cap, cur, h1, h2, h3⟩ => ⟨g, cap, cur, h1, Nat.le_trans hb h2, h3⟩⟩

/-- Belts of the call's own: the outer row; each inner one in a block of its own. -/
def Rows2 (w : World) (lo : Nat) (v : Value) (Q : List (List IncR)) : Prop :=
  ∃ V : Nat → Value, w.ownsRow lo 25 1 v Q.length ((List.range Q.length).map V) ∧ (∀ (j : Nat) (q : List IncR), Q[j]? = some q → w.ownsRow lo 24 5 (V j) q.length (incCells q)) ∧
    ∀ i j x, i ≠ j → i < Q.length → j < Q.length → (V i).ownBlock = some x → (V j).ownBlock ≠ some x

theorem Rows2.below {w w' : World} {lo : Nat} {v : Value} {Q : List (List IncR)} (h : Rows2 w lo v Q) (hb : Below w.heap.size w w') : Rows2 w' lo v Q := by
  obtain ⟨V, h1, h2, h3⟩ := h
  exact ⟨V, ownsRow_keep h1 fun g _ _ hl => hb.block g hl, fun j q hj => ownsRow_keep (h2 j q hj) fun g _ _ hl => hb.block g hl, h3⟩
theorem Rows2.qarr {w : World} {lo : Nat} {v : Value} {Q : List (List IncR)} (h : Rows2 w lo v Q) : ∃ A c, v = .slice A Q.length c ∧ QArr w (Rng lo w.heap.size) A c Q := by
  obtain ⟨V, h1, h2, _⟩ := h
  refine qarr_of (P := Rng lo w.heap.size) ⟨_, h1, fun j q hj => ?_⟩ (fun _ h => h) (fun b h1 h2 => ⟨h1, h2⟩)
  obtain ⟨A, c, e, hl⟩ := larr_of (h2 j q hj)
  exact ⟨A, c, by rw [List.getElem?_map, List.getElem?_range (get_lt hj)]; simp [e], hl⟩
/-- A row is taken out, and what has become of it put back. -/
theorem Rows2.get {w : World} {lo t : Nat} {v : Value} {Q : List (List IncR)} {q : List IncR} (h : Rows2 w lo v Q) (ht : Q[t]? = some q) :
    ∃ g cap y, v = .slice (some ⟨g, 0, none⟩) Q.length cap ∧ lo ≤ g ∧ g < w.heap.size ∧ w.cell? ⟨g, t, none⟩ = some y ∧ w.ownsRow lo 24 5 y q.length (incCells q) ∧
      ∀ w' y' q', w.grownBy w' y.ownBlock → w'.ownsRow lo 24 5 y' q'.length (incCells q') → (y'.ownBlock = y.ownBlock ∨ ∀ x, y'.ownBlock = some x → w.heap.size ≤ x) → y'.oneCell' = true →
        w'.cell? ⟨g, t, none⟩ = some y ∧ w'.frozen? ⟨g, t, none⟩ = false ∧ g < w'.heap.size ∧ Rows2 (w'.setCell ⟨g, t, none⟩ y') lo v (Q.set t q') := by
  obtain ⟨V, h1, h2, h3⟩ := h
  have htl := get_lt ht
  have h1c := h1
  obtain ⟨hl, ⟨_, h0⟩ | ⟨g, cap, cur, rfl, hb, hg, hc, hm, hs, htk⟩⟩ := h1
  · omega
  · have hcur : ∀ j, j < Q.length → cur[j]? = some (V j) := by
      intro j hj
      have e : ((List.range Q.length).map V)[j]? = some (V j) := by rw [List.getElem?_map, List.getElem?_range hj]; rfl
      rw [← htk, List.getElem?_take, if_pos (by omega)] at e
      simpa using e
    refine ⟨g, cap, V t, rfl, hb, blk_lt hg, (cell_row hg).trans (hcur t htl), h2 t q ht, fun w' y' q' hgr hy' hyb hy1 => ?_⟩
    have hgy : ∀ x, (V t).ownBlock = some x → g ≠ x := fun x hx e => by
      subst e
      obtain ⟨_, hh, _⟩ := row_t (h2 t q ht) hx
      rw [hg] at hh
      injection hh with hh
      injection hh with _ hh _
      exact absurd hh (by decide)
    have hg' : w'.heap[g]? = some (.cells cur 25 (0, 0)) := (hgr.block g (blk_lt hg) (fun e => hgy g e.symm rfl)).trans hg
    have hy'g : ∀ x, y'.ownBlock = some x → x ≠ g := fun x hx e => by
      subst e
      obtain ⟨_, hh, _⟩ := row_t hy' hx
      rw [hg'] at hh
      injection hh with hh
      injection hh with _ hh _
      exact absurd hh (by decide)
    refine ⟨(cell_row hg').trans (hcur t htl), free_row hg', blk_lt hg', fun j => if j = t then y' else V j, ?_, fun j x hj => ?_, fun i j x hij hi hj => ?_⟩
    · refine ⟨by simp, .inr ⟨g, cap, cur.setIfInBounds t y', by simp, hb, ?_, by simpa using hc, hm, by simpa using hs, ?_⟩⟩
      · simp [World.setCell, Array.getElem?_modify, hg']
      · refine List.ext_getElem? fun j => ?_
        rw [List.getElem?_take]
        split
        · have hj : j < Q.length := by simp at *; omega
          rw [List.getElem?_map, List.getElem?_range (by simpa using hj), Array.getElem?_toList, Array.getElem?_setIfInBounds]
          by_cases e : t = j
          · subst e
            rw [if_pos rfl, if_pos (by omega)]
            simp
          · rw [if_neg e, hcur j hj]
            have e2 : ¬ j = t := fun x => e x.symm
            simp [e2]
        · rw [List.getElem?_eq_none (by simp at *; omega)]
    · have hjl := get_lt hj
      simp at hjl
      by_cases e : j = t
      · subst e
        rw [List.getElem?_set_self htl] at hj
        injection hj with hj
        subst hj
        simp only [if_pos]
        exact ownsRow_keep hy' fun x hx _ _ => Below.heap_setCell w' ⟨g, j, none⟩ y' x (hy'g x hx)
      · rw [List.getElem?_set_ne (fun x => e x.symm)] at hj
        simp only [if_neg e]
        have hk := h2 j x hj
        refine ownsRow_keep (ownsRow_keep (w' := w') hk fun b hx _ hl => hgr.block b hl (fun e2 => ?_)) fun b hx _ hl => Below.heap_setCell w' ⟨g, t, none⟩ y' b (fun e2 => ?_)
        · exact h3 j t b e hjl htl hx e2.symm
        · have e2 : b = g := e2
          subst e2
          obtain ⟨_, hh, _⟩ := row_t hk hx
          rw [hg] at hh
          injection hh with hh
          injection hh with _ hh _
          exact absurd hh (by decide)
    · simp at hi hj
      by_cases e : i = t
      · subst e
        simp only [if_pos]
        rw [if_neg (fun e2 => hij e2.symm)]
        intro hx hx2
        rcases hyb with h | h
        · exact h3 i j x hij hi hj (by rw [← h]; exact hx) hx2
        · obtain ⟨q2, hq2⟩ := nth_of hj
          have := ((h2 j q2 hq2).lt x hx2).2
          have := h x hx
          omega
      · simp only [if_neg e]
        by_cases e2 : j = t
        · subst e2
          simp only [if_pos]
          intro hx hx2
          rcases hyb with h | h
          · exact h3 i j x hij hi hj hx (by rw [← h]; exact hx2)
          · obtain ⟨q2, hq2⟩ := nth_of hi
            have := ((h2 i q2 hq2).lt x hx).2
            have := h x hx2
            omega
        · simp only [if_neg e2]
          exact h3 i j x hij hi hj

theorem rows_info : (Try.prog.info? 25).map (fun i => (i.zero, i.size, i.bytes)) = some (some (.slice none 0 0), 1, 24) := by kernel_rfl
/-- New belts, all empty. -/
theorem Rows2.made {w : World} {lo n : Nat} {v : Value} (h : w.ownsRow lo 25 1 v n (List.replicate n (.slice none 0 0))) : Rows2 w lo v (List.replicate n []) := by
  refine ⟨fun _ => .slice none 0 0, ?_, fun j q hj => ?_, fun i j x _ _ _ h => by simp [Value.ownBlock] at h⟩
  · rw [List.length_replicate]
    rwa [show (List.range n).map (fun _ => Value.slice none 0 0) = List.replicate n (.slice none 0 0) by
      refine List.ext_getElem? fun j => ?_
      rw [List.getElem?_map, List.getElem?_replicate]
      by_cases e : j < n
      · rw [List.getElem?_range e, if_pos e]; rfl
      · rw [List.getElem?_eq_none (by simp; omega), if_neg e]; rfl]
  · rw [List.getElem?_replicate] at hj
    split at hj
    · injection hj with hj
      subst hj
      exact World.ownsRow_nil _ _ _ _
    · cases hj

/-- A new row of increments. -/
def GivesRowI (I : List IncR) (w : World) (e : Ending) (w' : World) : Prop := ∃ v, e = .returned v ∧ w'.ownsRow w.heap.size 24 5 v I.length (incCells I) ∧ v.oneCell' = true ∧ Below w.heap.size w w'
theorem row_one {w : World} {base s n : Nat} {t : TypeId} {v : Value} {xs : List Value} (h : w.ownsRow base t s v n xs) : v.oneCell' = true := by
  obtain ⟨_, ⟨rfl, _⟩ | ⟨g', cap, cur, rfl, _⟩⟩ := h <;> rfl

/-- The belts of a copy, the first t of them done. -/
def cpQ (Q : List (List IncR)) (t : Nat) : List (List IncR) := Q.take t ++ List.replicate (Q.length - t) []
theorem cpQ_get {Q : List (List IncR)} {t : Nat} (h : t < Q.length) : (cpQ Q t)[t]? = some [] := by
  have e : (Q.take t).length = t := by simp; omega
  rw [cpQ, List.getElem?_append_right (by omega), e, Nat.sub_self, List.getElem?_replicate, if_pos (by omega)]
theorem cpQ_len {Q : List (List IncR)} {t : Nat} (h : t ≤ Q.length) : (cpQ Q t).length = Q.length := by simp [cpQ]; omega
theorem cpQ_set {Q : List (List IncR)} {t : Nat} {q : List IncR} (h : Q[t]? = some q) : (cpQ Q t).set t q = cpQ Q (t + 1) := by
  have ht := get_lt h
  refine List.ext_getElem? fun j => ?_
  rcases (by omega : j = t ∨ j < t ∨ t < j) with e | e | e
  · subst e
    rw [List.getElem?_set_self (by rw [cpQ_len (by omega)]; exact ht), cpQ, List.getElem?_append_left (by simp; omega), List.getElem?_take, if_pos (by omega), h]
  · rw [List.getElem?_set_ne (by omega), cpQ, cpQ, List.getElem?_append_left (by simp; omega), List.getElem?_append_left (by simp; omega), List.getElem?_take, List.getElem?_take, if_pos e, if_pos (by omega)]
  · rw [List.getElem?_set_ne (by omega), cpQ, cpQ, List.getElem?_append_right (by simp; omega), List.getElem?_append_right (by simp; omega)]
    simp only [List.getElem?_replicate, List.length_take]
    by_cases e2 : j < Q.length
    · rw [if_pos (by omega), if_pos (by omega)]
    · rw [if_neg (by omega), if_neg (by omega)]
theorem cpQ_end (Q : List (List IncR)) : cpQ Q Q.length = Q := by simp [cpQ]

/-- New belts. -/
def GivesBelts (Q : List (List IncR)) (w : World) (e : Ending) (w' : World) : Prop := ∃ v, e = .returned v ∧ Rows2 w' w.heap.size v Q ∧ v.oneCell' = true ∧ Below w.heap.size w w'

end Go.Proofs.Ytlafkkekfkamoaa
