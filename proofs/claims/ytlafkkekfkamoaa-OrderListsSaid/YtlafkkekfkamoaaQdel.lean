/-
  slices.Delete of one increment of a row of the call's own.
-/
import Derived.Test.YtlafkkekfkamoaaQrws
import Derived.Deep.RegionLaw
namespace Go.Proofs.Ytlafkkekfkamoaa
open Go.RowKit
set_option maxRecDepth 100000
set_option linter.unusedVariables false

/-- A row in which some cells have been written. -/
def putA (cur : Array Value) : Nat → List Value → Array Value
  | _, [] => cur
  | o, v :: r => putA (cur.setIfInBounds o v) (o + 1) r
theorem putA_size : ∀ (vs : List Value) (o : Nat) (cur : Array Value), (putA cur o vs).size = cur.size
  | [], _, _ => rfl
  | v :: r, o, cur => by rw [putA, putA_size r]; simp
theorem putA_get : ∀ (vs : List Value) (o : Nat) (cur : Array Value) (i : Nat), o + vs.length ≤ cur.size → (putA cur o vs)[i]? = if o ≤ i ∧ i < o + vs.length then vs[i - o]? else cur[i]?
  | [], o, cur, i, _ => by rw [putA, if_neg (by simp only [List.length_nil]; omega)]
  | v :: r, o, cur, i, h => by
    rw [putA, putA_get r (o + 1) _ i (by simp at *; omega)]
    simp only [List.length_cons] at h ⊢
    rcases (by omega : i < o ∨ i = o ∨ (o < i ∧ i < o + (r.length + 1)) ∨ o + (r.length + 1) ≤ i) with e | e | e | e
    · rw [if_neg (by omega), if_neg (by omega), Array.getElem?_setIfInBounds, if_neg (by omega)]
    · subst e
      rw [if_neg (by omega), if_pos (by omega), Array.getElem?_setIfInBounds, if_pos rfl, if_pos (by omega), Nat.sub_self]
      rfl
    · rw [if_pos (by omega), if_pos (by omega), show i - o = (i - (o + 1)) + 1 by omega]
      rfl
    · rw [if_neg (by omega), if_neg (by omega), Array.getElem?_setIfInBounds, if_neg (by omega)]
theorem heap_setCells {g : Nat} {t : TypeId} {z : Nat × Nat} : ∀ (vs : List Value) (o : Nat) (w : World) (cur : Array Value), w.heap[g]? = some (.cells cur t z) → (w.setCells g o vs).heap[g]? = some (.cells (putA cur o vs) t z)
  | [], _, _, _, h => h
  | v :: r, o, w, cur, h => by
    rw [World.setCells, putA]
    exact heap_setCells r (o + 1) _ _ (by simp [World.setCell, Array.getElem?_modify, h])
theorem heap_setCells_far {g x : Nat} (h : x ≠ g) : ∀ (vs : List Value) (o : Nat) (w : World), (w.setCells g o vs).heap[x]? = w.heap[x]?
  | [], _, _ => rfl
  | v :: r, o, w => by
    rw [World.setCells, heap_setCells_far h r]
    exact Below.heap_setCell w ⟨g, o, none⟩ v x h
theorem setCells_row (g : Nat) : ∀ (vs : List Value) (o : Nat) (w : World), w.grownBy (w.setCells g o vs) (some g)
  | [], _, _ => ⟨rfl, rfl, rfl, Nat.le_refl _, fun _ _ _ => rfl⟩
  | v :: r, o, w => by
    have h := setCells_row g r (o + 1) (w.setCell ⟨g, o, none⟩ v)
    rw [World.setCells]
    exact ⟨h.os, h.tape, h.output, Nat.le_trans (by simp) h.size, fun k hk hn => (h.block k (by simpa using hk) hn).trans (Below.heap_setCell w ⟨g, o, none⟩ v k (fun e => hn (by rw [e])))⟩
def zeroI : List Value := [.int .i64 0, .int .i64 0, .int .i64 0, .int .i64 0, .int .i64 0]
theorem zeroValue_inc (w : World) : (zeroValue 24).run Try.prog w = .ok (.agg #[.int .i64 0, .int .i64 0, .int .i64 0, .int .i64 0, .int .i64 0]) w := by
  obtain ⟨i0, hi0, hz0, _, _⟩ := info_parts inc_info
  simp [zeroValue, typeInfo, hi0, hz0]
theorem run_clear_inc (w : World) (ty : TypeId) (g o c : Nat) (hc : ∀ j, j < 5 → (w.cell? ⟨g, o + j, none⟩).isSome = true) (hf : ∀ j, j < 5 → w.frozen? ⟨g, o + j, none⟩ = false) :
    (Builtin.clear_ #[25] ty #[.slice (some ⟨g, o, none⟩) 1 c]).run Try.prog w = .ok (.tuple #[]) (w.setCells g o zeroI) := by
  have hst := run_storeCells_cells (P := Try.prog) g o zeroI 0 w (by simpa [zeroI] using hc) (by simpa [zeroI] using hf) (by simp [zeroI, Value.oneCell'])
  simp only [Nat.add_zero] at hst
  have hzc : (Builtin.zeroCells (Value.agg #[.int .i64 0, .int .i64 0, .int .i64 0, .int .i64 0, .int .i64 0]).cells 1).toList = zeroI := by
    apply List.ext_getElem
    · simp [Builtin.zeroCells, Value.cells, zeroI]
    · intro i h1 h2
      have h3 : i < 5 := h2
      rcases (by omega : i = 0 ∨ i = 1 ∨ i = 2 ∨ i = 3 ∨ i = 4) with rfl | rfl | rfl | rfl | rfl <;> simp [Builtin.zeroCells, Value.cells, zeroI]
  simp [Builtin.clear_, run_underlying Try.underlying25, hzc, hst]

/-- What Delete leaves of a row. -/
theorem row_cut {w : World} {lo g cap k : Nat} {cur : Array Value} {q : List IncR} (hb : lo ≤ g) (hg : w.heap[g]? = some (.cells cur 24 (0, 0))) (hc : q.length ≤ cap) (hm : cap ≤ maxLen) (hs : cur.size = cap * 5) (htk : cur.toList.take (q.length * 5) = incCells q) (hk : k < q.length) :
    ((w.setCells g (k * 5) (incCells (q.drop (k + 1)))).setCells g ((q.length - 1) * 5) zeroI).ownsRow lo 24 5 (.slice (some ⟨g, 0, none⟩) (q.length - 1) cap) (q.length - 1) (incCells (q.eraseIdx k)) := by
  have hl1 : (incCells (q.drop (k + 1))).length = (q.length - (k + 1)) * 5 := by rw [incCells_length, List.length_drop]
  have he : q.eraseIdx k = q.take k ++ q.drop (k + 1) := List.eraseIdx_eq_take_drop_succ q k
  have hle : (q.eraseIdx k).length = q.length - 1 := by rw [List.length_eraseIdx, if_pos hk]
  refine ⟨by rw [incCells_length, hle], .inr ⟨g, cap, putA (putA cur (k * 5) (incCells (q.drop (k + 1)))) ((q.length - 1) * 5) zeroI, rfl, hb, heap_setCells _ _ _ _ (heap_setCells _ _ _ _ hg), by omega, hm, by rw [putA_size, putA_size, hs], ?_⟩⟩
  refine List.ext_getElem? fun i => ?_
  rw [List.getElem?_take]
  by_cases hi : i < (q.length - 1) * 5
  · rw [if_pos hi, Array.getElem?_toList, putA_get _ _ _ _ (by rw [putA_size, hs]; simp [zeroI]; omega), if_neg (by omega), putA_get _ _ _ _ (by rw [hl1, hs]; omega), hl1, he, incCells_append]
    have hlt : (incCells (q.take k)).length = k * 5 := by rw [incCells_length, List.length_take]; congr 1; omega
    by_cases hik : i < k * 5
    · rw [if_neg (by omega), List.getElem?_append_left (by omega)]
      have e1 : (incCells q)[i]? = cur[i]? := by
        rw [← htk, List.getElem?_take, if_pos (by omega), Array.getElem?_toList]
      rw [← e1]
      conv => lhs; rw [← List.take_append_drop k q, incCells_append]
      rw [List.getElem?_append_left (by omega)]
    · rw [if_pos (by omega), List.getElem?_append_right (by omega), hlt]
  · rw [if_neg hi, List.getElem?_eq_none (by rw [incCells_length, hle]; omega)]

end Go.Proofs.Ytlafkkekfkamoaa
