/-
  Copy and Remove of the reference of layer 11. (Made by mkqcop-s11.py.)
-/
import Derived.Test.YtlafkkekfkamoaaQque
import Derived.Laws.AppendOwnNone
namespace Go.Proofs.Ytlafkkekfkamoaa
open Go.RowKit
set_option maxRecDepth 100000
set_option linter.unusedVariables false

theorem grown_nil {w w1 : World} (h : w.grownBy w1 none) : Below w.heap.size w w1 := ⟨h.os, h.tape, h.output, h.size, fun k hk => h.block k hk (by simp)⟩
/-- One row more behind the others. -/
theorem rows2_push {wr w1 w2 : World} {lo t : Nat} {v v2 y : Value} {Q : List (List IncR)} {q : List IncR} {V : Nat → Value} {o : Obj} (hq : Q[t]? = some q) (hb : Below wr.heap.size wr w1)
    (h2 : ∀ (j : Nat) (x : List IncR), (Q.take t)[j]? = some x → wr.ownsRow lo 24 5 (V j) x.length (incCells x))
    (h3 : ∀ i j x, i ≠ j → i < (Q.take t).length → j < (Q.take t).length → (V i).ownBlock = some x → (V j).ownBlock ≠ some x)
    (hy : w1.ownsRow wr.heap.size 24 5 y q.length (incCells q)) (hyl : ∀ x, y.ownBlock = some x → wr.heap.size ≤ x)
    (hown : w2.ownsRow lo 25 1 v2 (t + 1) ((List.range t).map V ++ [y])) (hgr : (w1.alloc o).grownBy w2 v.ownBlock)
    (h1 : (w1.alloc o).ownsRow lo 25 1 v t ((List.range t).map V)) (hlo : lo ≤ wr.heap.size := by omega) : Rows2 w2 lo v2 (Q.take (t + 1)) := by
  have htl := get_lt hq
  have hlen : (Q.take t).length = t := by simp; omega
  have hlen2 : (Q.take (t + 1)).length = t + 1 := by simp; omega
  have hne : ∀ {s n : Nat} {B : Nat} {z : Value} {xs : List Value}, w1.ownsRow B 24 s z n xs → ∀ x, z.ownBlock = some x → v.ownBlock ≠ some x := by
    intro s n B z xs hz x hx hv
    obtain ⟨_, hh, _⟩ := row_t (hz.alloc o) hx
    obtain ⟨_, hh2, _⟩ := row_t h1 hv
    rw [hh] at hh2
    injection hh2 with hh2
    injection hh2 with _ hh2 _
    exact absurd hh2 (by decide)
  have hkeep : ∀ {s n : Nat} {B : Nat} {z : Value} {xs : List Value}, w1.ownsRow B 24 s z n xs → w2.ownsRow B 24 s z n xs := by
    intro s n B z xs hz
    exact ownsRow_keep (hz.alloc o) fun x hx _ hl => hgr.block x hl (fun e => hne hz x hx e.symm)
  refine ⟨fun j => if j = t then y else V j, ?_, fun j x hj => ?_, fun i j x hij hi hj => ?_⟩
  · rw [hlen2, List.range_succ, List.map_append]
    have e : (List.range t).map (fun j => if j = t then y else V j) = (List.range t).map V := by
      refine List.map_congr_left fun j hj => ?_
      have := List.mem_range.1 hj
      rw [if_neg (by omega)]
    rw [e]
    simpa using hown
  · rcases (by have := get_lt hj; omega : j < t ∨ j = t) with e | e
    · rw [List.getElem?_take, if_pos (by omega)] at hj
      simp only [if_neg (show ¬ j = t by omega)]
      have h := h2 j x (by rw [List.getElem?_take, if_pos e]; exact hj)
      exact hkeep (ownsRow_keep h fun g _ _ hl => hb.block g hl)
    · subst e
      rw [List.getElem?_take, if_pos (by omega), hq] at hj
      injection hj with hj
      subst hj
      simp only [if_pos]
      exact ownsRow_lower (hkeep hy) hlo
  · rw [hlen2] at hi hj
    have low : ∀ k z, k < t → (V k).ownBlock = some z → z < wr.heap.size := fun k z hk hz => by
      obtain ⟨qk, hqk⟩ := nth_of (l := Q.take t) (j := k) (by omega)
      exact ((h2 k qk hqk).lt z hz).2
    by_cases e : i = t
    · subst e
      simp only [if_pos]
      rw [if_neg (fun e2 => hij e2.symm)]
      intro hx hx2
      have := hyl x hx
      have := low j x (by omega) hx2
      omega
    · simp only [if_neg e]
      by_cases e2 : j = t
      · subst e2
        simp only [if_pos]
        intro hx hx2
        have := hyl x hx2
        have := low i x (by omega) hx
        omega
      · simp only [if_neg e2]
        exact h3 i j x hij (by omega) (by omega)

end Go.Proofs.Ytlafkkekfkamoaa
