/-
  slices.Delete of one increment of a row of the call's own.
-/
import Derived.Test.YtkknmphigpcjjaaQrws
import Derived.Deep.RegionLaw
namespace Go.Proofs.Ytkknmphigpcjjaa
open Go.RowKit
set_option maxRecDepth 100000
set_option linter.unusedVariables false

/-- A row in which some cells have been written. -/
def putA (cur : Array Value) : Nat → List Value → Array Value
  | _, [] => cur
  | o, v :: r => putA (cur.setIfInBounds o v) (o + 1) r
theorem putA_size : ∀ (vs : List Value) (o : Nat) (cur : Array Value), (putA cur o vs).size = cur.size
  | [], _, _ => rfl
  | v :: r, o, cur => by rw [putA, putA_size r]; simp
theorem putA_get : ∀ (vs : List Value) (o : Nat) (cur : Array Value) (i : Nat), o + vs.length ≤ cur.size → (putA cur o vs)[i]? = if o ≤ i ∧ i < o + vs.length then vs[i - o]? else cur[i]?
  | [], o, cur, i, _ => by rw [putA, if_neg (by simp only [List.length_nil]; omega)]
  | v :: r, o, cur, i, h => by
    rw [putA, putA_get r (o + 1) _ i (by simp at *; omega)]
    simp only [List.length_cons] at h ⊢
    rcases (by omega : i < o ∨ i = o ∨ (o < i ∧ i < o + (r.length + 1)) ∨ o + (r.length + 1) ≤ i) with e | e | e | e
    · rw [if_neg (by omega), if_neg (by omega), Array.getElem?_setIfInBounds, if_neg (by omega)]
    · subst e
      rw [if_neg (by omega), if_pos (by omega), Array.getElem?_setIfInBounds, if_pos rfl, if_pos (by omega), Nat.sub_self]
      rfl
    · rw [if_pos (by omega), if_pos (by omega), show i - o = (i - (o + 1)) + 1 by omega]
      rfl
    · rw [if_neg (by omega), if_neg (by omega), Array.getElem?_setIfInBounds, if_neg (by omega)]
theorem heap_setCells {g : Nat} {t : TypeId} {z : Nat × Nat} : ∀ (vs : List Value) (o : Nat) (w : World) (cur : Array Value), w.heap[g]? = some (.cells cur t z) → (w.setCells g o vs).heap[g]? = some (.cells (putA cur o vs) t z)
  | [], _, _, _, h => h
  | v :: r, o, w, cur, h => by
    rw [World.setCells, putA]
    exact heap_setCells r (o + 1) _ _ (by simp [World.setCell, Array.getElem?_modify, h])
theorem heap_setCells_far {g x : Nat} (h : x ≠ g) : ∀ (vs : List Value) (o : Nat) (w : World), (w.setCells g o vs).heap[x]? = w.heap[x]?
  | [], _, _ => rfl
  | v :: r, o, w => by
    rw [World.setCells, heap_setCells_far h r]
    exact Below.heap_setCell w ⟨g, o, none⟩ v x h
theorem setCells_row (g : Nat) : ∀ (vs : List Value) (o : Nat) (w : World), w.grownBy (w.setCells g o vs) (some g)
  | [], _, _ => ⟨rfl, rfl, rfl, Nat.le_refl _, fun _ _ _ => rfl⟩
  | v :: r, o, w => by
    have h := setCells_row g r (o + 1) (w.setCell ⟨g, o, none⟩ v)
    rw [World.setCells]
    exact ⟨h.os, h.tape, h.output, Nat.le_trans (by simp) h.size, fun k hk hn => (h.block k (by simpa using hk) hn).trans (Below.heap_setCell w ⟨g, o, none⟩ v k (fun e => hn (by rw [e])))⟩
def zeroI : List Value := [.int .i64 0, .int .i64 0, .int .i64 0, .int .i64 0, .int .i64 0]
theorem zeroValue_inc (w : World) : (zeroValue 41).run Try.prog w = .ok (.agg #[.int .i64 0, .int .i64 0, .int .i64 0, .int .i64 0, .int .i64 0]) w := by
  obtain ⟨i0, hi0, hz0, _, _⟩ := info_parts inc_info
  simp [zeroValue, typeInfo, hi0, hz0]
theorem run_clear_inc (w : World) (ty : TypeId) (g o c : Nat) (hc : ∀ j, j < 5 → (w.cell? ⟨g, o + j, none⟩).isSome = true) (hf : ∀ j, j < 5 → w.frozen? ⟨g, o + j, none⟩ = false) :
    (Builtin.clear_ #[31] ty #[.slice (some ⟨g, o, none⟩) 1 c]).run Try.prog w = .ok (.tuple #[]) (w.setCells g o zeroI) := by
  have hst := run_storeCells_cells (P := Try.prog) g o zeroI 0 w (by simpa [zeroI] using hc) (by simpa [zeroI] using hf) (by simp [zeroI, Value.oneCell'])
  simp only [Nat.add_zero] at hst
  have hzc : (Builtin.zeroCells (Value.agg #[.int .i64 0, .int .i64 0, .int .i64 0, .int .i64 0, .int .i64 0]).cells 1).toList = zeroI := by
    apply List.ext_getElem
    · simp [Builtin.zeroCells, Value.cells, zeroI]
    · intro i h1 h2
      have h3 : i < 5 := h2
      rcases (by omega : i = 0 ∨ i = 1 ∨ i = 2 ∨ i = 3 ∨ i = 4) with rfl | rfl | rfl | rfl | rfl <;> simp [Builtin.zeroCells, Value.cells, zeroI]
  simp [Builtin.clear_, run_underlying Try.underlying31, hzc, hst]

/-- What Delete leaves of a row. -/
theorem row_cut {w : World} {lo g cap k : Nat} {cur : Array Value} {q : List IncR} (hb : lo ≤ g) (hg : w.heap[g]? = some (.cells cur 41 (0, 0))) (hc : q.length ≤ cap) (hm : cap ≤ maxLen) (hs : cur.size = cap * 5) (htk : cur.toList.take (q.length * 5) = incCells q) (hk : k < q.length) :
    ((w.setCells g (k * 5) (incCells (q.drop (k + 1)))).setCells g ((q.length - 1) * 5) zeroI).ownsRow lo 41 5 (.slice (some ⟨g, 0, none⟩) (q.length - 1) cap) (q.length - 1) (incCells (q.eraseIdx k)) := by
  have hl1 : (incCells (q.drop (k + 1))).length = (q.length - (k + 1)) * 5 := by rw [incCells_length, List.length_drop]
  have he : q.eraseIdx k = q.take k ++ q.drop (k + 1) := List.eraseIdx_eq_take_drop_succ q k
  have hle : (q.eraseIdx k).length = q.length - 1 := by rw [List.length_eraseIdx, if_pos hk]
  refine ⟨by rw [incCells_length, hle], .inr ⟨g, cap, putA (putA cur (k * 5) (incCells (q.drop (k + 1)))) ((q.length - 1) * 5) zeroI, rfl, hb, heap_setCells _ _ _ _ (heap_setCells _ _ _ _ hg), by omega, hm, by rw [putA_size, putA_size, hs], ?_⟩⟩
  refine List.ext_getElem? fun i => ?_
  rw [List.getElem?_take]
  by_cases hi : i < (q.length - 1) * 5
  · rw [if_pos hi, Array.getElem?_toList, putA_get _ _ _ _ (by rw [putA_size, hs]; simp [zeroI]; omega), if_neg (by omega), putA_get _ _ _ _ (by rw [hl1, hs]; omega), hl1, he, incCells_append]
    have hlt : (incCells (q.take k)).length = k * 5 := by rw [incCells_length, List.length_take]; congr 1; omega
    by_cases hik : i < k * 5
    · rw [if_neg (by omega), List.getElem?_append_left (by omega)]
      have e1 : (incCells q)[i]? = cur[i]? := by
        rw [← htk, List.getElem?_take, if_pos (by omega), Array.getElem?_toList]
      rw [← e1]
      conv => lhs; rw [← List.take_append_drop k q, incCells_append]
      rw [List.getElem?_append_left (by omega)]
    · rw [if_pos (by omega), List.getElem?_append_right (by omega), hlt]
  · rw [if_neg hi, List.getElem?_eq_none (by rw [incCells_length, hle]; omega)]

set_option maxHeartbeats 4000000 in
theorem delete11_any (lo k : Nat) (y : Value) (q : List IncR) (w : World) (hy : w.ownsRow lo 41 5 y q.length (incCells q)) (hk : k < q.length) :
    Calls Try.prog 46 #[y, .int .i64 k, .int .i64 ((k + 1 : Nat) : Int)] w fun e w' => ∃ y', e = .returned y' ∧ w'.ownsRow lo 41 5 y' (q.eraseIdx k).length (incCells (q.eraseIdx k)) ∧ y'.ownBlock = y.ownBlock ∧ w.grownBy w' y.ownBlock := by
  obtain ⟨i0, hi0, hz0, hz1, hz2⟩ := info_parts inc_info
  obtain ⟨hl, ⟨_, h0⟩ | ⟨g, cap, cur, rfl, hb, hg, hc, hm, hs, htk⟩⟩ := hy
  · omega
  · have hle : (q.eraseIdx k).length = q.length - 1 := by rw [List.length_eraseIdx, if_pos hk]
    have hcut := row_cut (k := k) hb (show w.drew.heap[g]? = _ from hg) hc hm hs htk hk
    obtain ⟨news, hnews⟩ : ∃ x, x = incCells (q.drop (k + 1)) := ⟨_, rfl⟩
    have hl1 : news.length = (q.length - (k + 1)) * 5 := by rw [hnews, incCells_length, List.length_drop]
    rw [← hnews] at hcut
    have hcell : ∀ i u, (incCells q)[i]? = some u → w.cell? ⟨g, i, none⟩ = some u := by
      intro i u hu
      have hi := get_lt hu
      rw [incCells_length] at hi
      rw [cell_row hg, ← Array.getElem?_toList]
      rw [← htk, List.getElem?_take, if_pos hi] at hu
      exact hu
    have hsome : ∀ i, i < cap * 5 → (w.cell? ⟨g, i, none⟩).isSome = true := by
      intro i hi
      rw [cell_row hg, Array.getElem?_eq_getElem (by omega)]
      rfl
    simp only [maxLen] at hm
    obtain ⟨n, hn⟩ : ∃ n, n = q.length := ⟨_, rfl⟩
    rw [← hn] at hk hc hle hl1 hcut ⊢
    obtain ⟨A, hA, hsrc⟩ : ∃ A : Addr, (if cap = k + 1 then some (⟨g, 0, none⟩ : Addr) else some ⟨g, (k + 1) * 5, none⟩) = some A ∧ Hid (∀ t u, news[t]? = some u → w.drew.cell? (A.add t) = some u) := by
      by_cases h : cap = k + 1
      · refine ⟨⟨g, 0, none⟩, by simp [h], Lib.hid fun t u hu => ?_⟩
        have := get_lt hu
        omega
      · refine ⟨⟨g, (k + 1) * 5, none⟩, by simp [h], Lib.hid fun t u hu => ?_⟩
        rw [add_at]
        refine hcell _ u ?_
        conv => lhs; rw [← List.take_append_drop (k + 1) q, incCells_append]
        rw [List.getElem?_append_right (by rw [incCells_length, List.length_take]; omega), incCells_length, List.length_take, show (k + 1) * 5 + t - min (k + 1) q.length * 5 = t by omega, ← hnews]
        exact hu
    have s1 : Hid (news.length = (n - (k + 1)) * 5) := hl1
    have s2 : Hid (∀ u ∈ news, u.oneCell' = true) := Lib.hid (by rw [hnews]; exact incCells_one _)
    have s3 : Hid (∀ t, t < news.length → (w.drew.cell? ⟨g, 0 + k * 5 + t, none⟩).isSome = true ∧ w.drew.frozen? ⟨g, 0 + k * 5 + t, none⟩ = false) := Lib.hid fun t ht => by
      rw [hl1] at ht
      exact ⟨hsome _ (by omega), free_row hg⟩
    obtain ⟨W1, hW1⟩ : ∃ W1, W1 = w.drew.setCells g (0 + k * 5) news := ⟨_, rfl⟩
    have HW1 := Lib.hid hW1
    have hgW : W1.heap[g]? = some (.cells (putA cur (0 + k * 5) news) 41 (0, 0)) := by rw [hW1]; exact heap_setCells _ _ _ _ hg
    have hcl : ∀ ty, (Builtin.clear_ #[31] ty #[.slice (some ⟨g, (n - 1) * 5, none⟩) 1 (cap - (n - 1))]).run Try.prog W1 = .ok (.tuple #[]) (W1.setCells g ((n - 1) * 5) zeroI) := fun ty =>
      run_clear_inc W1 ty g ((n - 1) * 5) _ (fun j hj => by rw [cell_row hgW, Array.getElem?_eq_getElem (by rw [putA_size, hs]; omega)]; rfl) (fun j hj => free_row hgW)
    have hn1 : k + (n - (k + 1)) = n - 1 := by omega
    have hcl2 : ∀ ty, (Builtin.clear_ #[31] ty #[.slice (some ⟨g, (k + (n - (k + 1))) * 5, none⟩) (n - (k + (n - (k + 1)))) (cap - (k + (n - (k + 1))))]).run Try.prog W1 = .ok (.tuple #[]) (W1.setCells g ((n - 1) * 5) zeroI) := fun ty => by
      rw [show n - (k + (n - (k + 1))) = 1 by omega, hn1]
      exact hcl ty
    have HN1 := Lib.hid hn1
    have HCUT : Hid ((W1.setCells g ((n - 1) * 5) zeroI).ownsRow lo 41 5 (.slice (some ⟨g, 0, none⟩) (n - 1) cap) (n - 1) (incCells (q.eraseIdx k))) := Lib.hid (by rw [hW1, Nat.zero_add]; exact hcut)
    have HGR : Hid (w.grownBy (W1.setCells g ((n - 1) * 5) zeroI) (some g)) := Lib.hid (by
      have h1 := setCells_row g news (0 + k * 5) w.drew
      rw [← hW1] at h1
      have h2 := setCells_row g zeroI ((n - 1) * 5) W1
      exact ⟨h2.os.trans h1.os, h2.tape.trans h1.tape, h2.output.trans h1.output, Nat.le_trans h1.size h2.size, fun x hx hne => (h2.block x (Nat.lt_of_lt_of_le hx h1.size) hne).trans (h1.block x hx hne)⟩)
    have HLE := Lib.hid hle
    have hkk : ((k : Int) == ((k + 1 : Nat) : Int)) = false := by simp; omega
    have hk1 : k + 1 ≤ n := hk
    have hk2 : k ≤ cap := by omega
    have hk3 : k + 1 ≤ cap := by omega
    clear hcl hn1 hW1 hgW hcut hsome hcell hnews hl1 hg htk hs hle hn hl
    go_enter Try.func46, Try.ntmps46
    go_wp2_with fail
    have hp0 : (0 : Int) ≤ ((k + 1 : Nat) : Int) := by omega
    have hp1 : ((k + 1 : Nat) : Int) ≤ (n : Int) := by omega
    have hp2 : ((k + 1 : Nat) : Int).toNat = k + 1 := by omega
    have hp3 : (0 : Int) ≤ (k : Int) + 1 := by omega
    have hp4 : (k : Int) + 1 ≤ (n : Int) := by omega
    have hp5 : ((k : Int) + 1).toNat = k + 1 := by omega
    go_region_law (refine step_append_room rfl (.tmp 22) (.tmp 25) 31 rfl 41 i0 5 Try.underlying31 hi0 hz1 g 0 k cap (by simp [Act.eval, Act.put]) A (n - (k + 1)) (cap - (k + 1)) news (by simp [Act.eval, Act.put]) s1.out hsrc.out s2.out (by omega) s3.out ?_; rw [← HW1.out])
    go_wp2
    go_ret
    exact ⟨_, rfl, by rw [HLE.out, HN1.out]; exact HCUT.out, rfl, HGR.out⟩
end Go.Proofs.Ytkknmphigpcjjaa
