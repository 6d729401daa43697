/-
  Rows of integers that a law keeps beside belts: a row of rows, each in a block of its own.
-/
import Derived.Test.YtlafkkekfkamoaaQrem
namespace Go.Proofs.Ytlafkkekfkamoaa
open Go.RowKit
set_option maxRecDepth 100000
set_option linter.unusedVariables false

/-- A slice of integers that may be written, wherever it begins. -/
def WRow (w : World) (A : Option Addr) (c : Nat) (xs : List Int) : Prop :=
  xs.length ≤ c ∧ c ≤ maxLen ∧ (A = none → c = 0) ∧ ∀ ad, A = some ad → ∃ g o, ad = ⟨g, o, none⟩ ∧ g < w.heap.size ∧ (∀ t x, xs[t]? = some x → w.cell? ⟨g, o + t, none⟩ = some (.int .i64 x)) ∧
    ∀ t, t < c → (w.cell? ⟨g, o + t, none⟩).isSome = true ∧ w.frozen? ⟨g, o + t, none⟩ = false
theorem WRow.keep {w w' : World} {A : Option Addr} {c : Nat} {xs : List Int} (h : WRow w A c xs) (hs : w.heap.size ≤ w'.heap.size) (hk : ∀ ad, A = some ad → w'.heap[ad.block]? = w.heap[ad.block]?) : WRow w' A c xs := by
  refine ⟨h.1, h.2.1, h.2.2.1, fun ad ha => ?_⟩
  obtain ⟨g, o, e, hg, h1, h2⟩ := h.2.2.2 ad ha
  have hb := hk ad ha
  rw [e] at hb
  refine ⟨g, o, e, by omega, fun t x hx => ?_, fun t ht => ?_⟩
  · rw [World.cell?_of_block (w := w) (a := ⟨g, o + t, none⟩) hb]; exact h1 t x hx
  · rw [World.cell?_of_block (w := w) (a := ⟨g, o + t, none⟩) hb, World.frozen?_of_block (w := w) (a := ⟨g, o + t, none⟩) hb]; exact h2 t ht
theorem WRow.nil (w : World) : WRow w none 0 [] := ⟨by simp, by simp, fun _ => rfl, fun ad h => by cases h⟩
def blkO (A : Option Addr) : Option Nat := A.map fun a => a.block

section
variable {P : Program} (w : World)
/-- One number behind the others: in place or in a new block. -/
theorem wpList_append_w {ops : Array Oper} {rest : List Oper} {o : Oper} {a : Act} {Q : Exit → Act → World → Prop} (hgd : o.guard = none) (s x : Operand) (t : TypeId)
    (ho : o.op = .call { callee := .builtin .append, args := #[s, x], argTypes := #[t, t] })
    (e : TypeId) (i : TypeInfo) (z : Value) (bytes : Nat) (ht : P.underlying t = some (.slice e)) (hi : P.info? e = some i) (hz : i.zero = some z) (hsize : i.size = 1) (hby : i.bytes = bytes) (hzs : z.cells.size = 1)
    (A : Option Addr) (n c : Nat) (xs : List Int) (hs : a.eval s = .slice A n c) (hn : n = xs.length) (hw : WRow w A c xs) (ad : Addr) (y : Int) (hx : a.eval x = .slice (some ad) 1 1) (hy : w.cell? ad = some (.int .i64 y))
    (h63 : n + 1 ≤ maxLen) (hbytes : (n + 1) * bytes ≤ 140737488355328)
    (h : ∀ A' c' w', WRow w' A' c' (xs ++ [y]) → w.grownBy w' (blkO A) → (∀ a', A' = some a' → blkO A = some a'.block ∨ w.heap.size ≤ a'.block) → wpList P ops Q rest (a.put o.dst (.slice A' (n + 1) c')) w') : wpList P ops Q (o :: rest) a w := by
  subst hn
  have hnews : ∀ j u, [Value.int .i64 y][j]? = some u → w.cell? (ad.add j) = some u := by
    intro j u hu
    rcases j with _ | j
    · simp at hu; subst hu
      have : ad.add 0 = ad := by unfold Addr.add; simp
      rw [this]; exact hy
    · simp at hu
  have holds : ∀ b, A = some b → ∀ j u, (xs.map (Value.int .i64))[j]? = some u → w.cell? (b.add j) = some u := by
    intro b hb j u hu
    obtain ⟨g, o', e', _, h1, _⟩ := hw.2.2.2 b hb
    rw [List.getElem?_map] at hu
    cases hxj : xs[j]? with
    | none => rw [hxj] at hu; cases hu
    | some v =>
      rw [hxj] at hu
      simp at hu
      subst hu e'
      rw [add_at]
      exact h1 j v hxj
  by_cases hr : xs.length + 1 ≤ c
  · obtain ⟨b, hb⟩ : ∃ b, A = some b := by
      cases A with
      | none => have := hw.2.2.1 rfl; omega
      | some b => exact ⟨b, rfl⟩
    obtain ⟨g, o', e', hg, h1, h2⟩ := hw.2.2.2 b hb
    subst e' hb
    refine wpList_append_arg w hgd s x t ho e i z 1 bytes ht hi hz hsize hby hzs (by decide) g o' xs.length c (xs.map (Value.int .i64)) hs (by simp) (fun j u hu => by have := holds _ rfl j u hu; rwa [add_at] at this) ad 1 1 [.int .i64 y] hx rfl hnews (by simp [Value.oneCell'])
      (fun _ j hj => by
        simp at hj
        subst hj
        have := h2 xs.length (by omega)
        simpa using this) h63 hbytes (fun _ => ?_) (fun hcon => absurd hr (by omega))
    have hgr := setCells_row g [Value.int .i64 y] (o' + xs.length * 1) w
    refine h (some ⟨g, o', none⟩) c _ ⟨by simpa using hr, hw.2.1, (fun e => by cases e), fun ad' ha => ?_⟩ hgr (fun a' ha => ?_)
    · injection ha with ha
      subst ha
      refine ⟨g, o', rfl, Nat.lt_of_lt_of_le hg hgr.size, fun t v hv => ?_, fun t ht => ?_⟩
      · rcases (by have := get_lt hv; simp at this; omega : t < xs.length ∨ t = xs.length) with ht | rfl
        · rw [List.getElem?_append_left ht] at hv
          rw [World.cell?_setCells_out g _ _ w _ (fun _ _ => by simp; omega)]
          exact h1 t v hv
        · rw [List.getElem?_append_right (Nat.le_refl _), Nat.sub_self] at hv
          simp at hv
          subst hv
          have := World.cell?_setCells_in g [Value.int .i64 y] (o' + xs.length * 1) w (fun j hj => by
            simp at hj
            subst hj
            simpa using (h2 xs.length (by omega)).1) 0 (by simp)
          simpa using this
      · rw [World.frozen?_setCells]
        refine ⟨?_, (h2 t ht).2⟩
        by_cases e2 : t = xs.length
        · subst e2
          have := World.cell?_setCells_in g [Value.int .i64 y] (o' + xs.length * 1) w (fun j hj => by
            simp at hj
            subst hj
            simpa using (h2 xs.length (by omega)).1) 0 (by simp)
          simp only [Nat.mul_one, Nat.add_zero] at this ⊢
          rw [this]; rfl
        · rw [World.cell?_setCells_out g _ _ w _ (fun _ _ => by simp; omega)]
          exact (h2 t ht).1
    · injection ha with ha
      subst ha
      exact .inl rfl
  · have hl := hw.1
    refine wpList_append_grows w hgd s x t ho e i z 1 bytes ht hi hz hsize hby hzs (by decide) A xs.length c (xs.map (Value.int .i64)) hs (fun ha => by have := hw.2.2.1 ha; omega) (by simp) holds ad 1 1 [.int .i64 y] hx rfl hnews (by simp [Value.oneCell']) (by omega) h63 hbytes fun v' w' hown hgr => ?_
    obtain ⟨hlen, ⟨rfl, h0⟩ | ⟨g, cap, cur, rfl, hb, hg, hc, hm, hcs, htk⟩⟩ := hown
    · omega
    · refine h (some ⟨g, 0, none⟩) cap w' ⟨by simpa using hc, hm, (fun e => by cases e), fun ad' ha => ?_⟩ ⟨hgr.os, hgr.tape, hgr.output, hgr.size, fun k hk _ => hgr.block k hk (by simp)⟩ (fun a' ha => ?_)
      · injection ha with ha
        subst ha
        refine ⟨g, 0, rfl, blk_lt hg, fun t v hv => ?_, fun t ht => ?_⟩
        · have htl := get_lt hv
          simp at htl
          rw [Nat.zero_add, cell_row hg, ← Array.getElem?_toList]
          have e2 : (xs.map (Value.int .i64) ++ [Value.int .i64 y])[t]? = some (.int .i64 v) := by
            rw [show xs.map (Value.int .i64) ++ [Value.int .i64 y] = (xs ++ [y]).map (Value.int .i64) by simp, List.getElem?_map, hv]; rfl
          rw [← htk, List.getElem?_take, if_pos (by omega)] at e2
          exact e2
        · rw [Nat.zero_add]
          refine ⟨?_, free_row hg⟩
          rw [cell_row hg, Array.getElem?_eq_getElem (by omega)]
          rfl
      · injection ha with ha
        subst ha
        exact .inr hb
end

/-- A row of such rows: the numbers of the increments of each belt. -/
def Wnt (w : World) (gw : Nat) (P : Nat → Prop) (Q : List (List IncR)) : Prop :=
  ∃ cur : Array Value, w.heap[gw]? = some (.cells cur 31 (0, 0)) ∧ cur.size = Q.length ∧ ∃ (V : Nat → Option Addr) (C : Nat → Nat),
    (∀ (j : Nat) (q : List IncR), Q[j]? = some q → cur[j]? = some (.slice (V j) q.length (C j)) ∧ WRow w (V j) (C j) (q.map fun i => i.sq) ∧ ∀ x, blkO (V j) = some x → gw < x ∧ P x) ∧
    ∀ i j x, i ≠ j → i < Q.length → j < Q.length → blkO (V i) = some x → blkO (V j) ≠ some x
theorem blkO_some {A : Option Addr} {ad : Addr} (h : A = some ad) : blkO A = some ad.block := by rw [h]; rfl
theorem Wnt.keep {w w' : World} {gw : Nat} {P P' : Nat → Prop} {Q : List (List IncR)} (h : Wnt w gw P Q) (hs : w.heap.size ≤ w'.heap.size) (hk : ∀ g, gw ≤ g → g < w.heap.size → w'.heap[g]? = w.heap[g]?) (hp : ∀ x, x < w.heap.size → P x → P' x) : Wnt w' gw P' Q := by
  obtain ⟨cur, h1, h2, V, C, h3, h4⟩ := h
  refine ⟨cur, (hk gw (Nat.le_refl _) (blk_lt h1)).trans h1, h2, V, C, fun j q hj => ?_, h4⟩
  obtain ⟨a1, a2, a3⟩ := h3 j q hj
  refine ⟨a1, a2.keep hs fun ad ha => ?_, fun x hx => ⟨(a3 x hx).1, ?_⟩⟩
  · obtain ⟨g, o, e, hg, _⟩ := a2.2.2.2 ad ha
    have := (a3 _ (blkO_some ha)).1
    rw [e] at this ⊢
    exact hk g (Nat.le_of_lt this) hg
  · cases hv : V j with
    | none => rw [hv] at hx; cases hx
    | some ad =>
      obtain ⟨g, o, e, hg, _⟩ := a2.2.2.2 ad hv
      have e2 : x = g := by rw [hv, e] at hx; simp [blkO] at hx; exact hx.symm
      exact hp x (by omega) (a3 x (by rw [hv] at hx ⊢; exact hx)).2
theorem Wnt.get {w : World} {gw t : Nat} {P : Nat → Prop} {Q : List (List IncR)} {q : List IncR} (h : Wnt w gw P Q) (ht : Q[t]? = some q) :
    ∃ A c, w.cell? ⟨gw, t, none⟩ = some (.slice A q.length c) ∧ w.frozen? ⟨gw, t, none⟩ = false ∧ gw < w.heap.size ∧ WRow w A c (q.map fun i => i.sq) ∧ (∀ x, blkO A = some x → gw < x ∧ P x) ∧
      ∀ w' A' c' (q' : List IncR) (P' : Nat → Prop), w.heap.size ≤ w'.heap.size → (∀ g, gw ≤ g → g < w.heap.size → blkO A ≠ some g → w'.heap[g]? = w.heap[g]?) → WRow w' A' c' (q'.map fun i => i.sq) →
        (∀ x, blkO A' = some x → gw < x ∧ P' x ∧ (blkO A = some x ∨ w.heap.size ≤ x)) → (∀ x, x < w.heap.size → P x → P' x) →
        w'.cell? ⟨gw, t, none⟩ = some (.slice A q.length c) ∧ w'.frozen? ⟨gw, t, none⟩ = false ∧ gw < w'.heap.size ∧ Wnt (w'.setCell ⟨gw, t, none⟩ (.slice A' q'.length c')) gw P' (Q.set t q') := by
  obtain ⟨cur, h1, h2, V, C, h3, h4⟩ := h
  have htl := get_lt ht
  obtain ⟨a1, a2, a3⟩ := h3 t q ht
  have blk_in : ∀ j x, j < Q.length → blkO (V j) = some x → x < w.heap.size := by
    intro j x hj hx
    obtain ⟨qj, hqj⟩ := nth_of hj
    obtain ⟨_, b2, _⟩ := h3 j qj hqj
    cases hv : V j with
    | none => rw [hv] at hx; cases hx
    | some ad =>
      obtain ⟨g, o, e, hg, _⟩ := b2.2.2.2 ad hv
      rw [hv, e] at hx; simp [blkO] at hx
      omega
  refine ⟨V t, C t, (cell_row h1).trans a1, free_row h1, blk_lt h1, a2, a3, fun w' A' c' q' P' hs hk hw' hb' hp => ?_⟩
  have hgw : blkO (V t) ≠ some gw := fun e => by have := (a3 gw e).1; omega
  have h1' : w'.heap[gw]? = some (.cells cur 31 (0, 0)) := (hk gw (Nat.le_refl _) (blk_lt h1) hgw).trans h1
  refine ⟨(cell_row h1').trans a1, free_row h1', blk_lt h1', cur.setIfInBounds t (.slice A' q'.length c'), ?_, by simpa using h2, fun j => if j = t then A' else V j, fun j => if j = t then c' else C j, fun j x hj => ?_, fun i j x hij hi hj => ?_⟩
  · simp [World.setCell, Array.getElem?_modify, h1']
  · have hjl := get_lt hj
    simp at hjl
    have hfar : ∀ g, g ≠ gw → (w'.setCell ⟨gw, t, none⟩ (.slice A' q'.length c')).heap[g]? = w'.heap[g]? := fun g hg => Below.heap_setCell w' ⟨gw, t, none⟩ _ g hg
    by_cases e : j = t
    · subst e
      rw [List.getElem?_set_self htl] at hj
      injection hj with hj
      subst hj
      simp only [if_pos]
      refine ⟨by rw [Array.getElem?_setIfInBounds, if_pos rfl, if_pos (by omega)], hw'.keep (by simp) fun ad ha => hfar _ (fun e => by have := (hb' _ (blkO_some ha)).1; omega), fun x hx => ⟨(hb' x hx).1, (hb' x hx).2.1⟩⟩
    · rw [List.getElem?_set_ne (fun x => e x.symm)] at hj
      simp only [if_neg e]
      obtain ⟨b1, b2, b3⟩ := h3 j x hj
      refine ⟨by rw [Array.getElem?_setIfInBounds, if_neg (fun x => e x.symm)]; exact b1, b2.keep (Nat.le_trans hs (by simp)) fun ad ha => ?_, fun y hy => ⟨(b3 y hy).1, hp y (blk_in j y hjl hy) (b3 y hy).2⟩⟩
      have hbk := blkO_some ha
      have hlt := (b3 _ hbk).1
      rw [hfar _ (by omega)]
      exact hk _ (Nat.le_of_lt hlt) (blk_in j _ hjl hbk) (fun e2 => h4 t j _ (fun x => e x.symm) htl hjl e2 hbk)
  · simp at hi hj
    by_cases e : i = t
    · subst e
      simp only [if_pos]
      rw [if_neg (fun e2 => hij e2.symm)]
      intro hx hx2
      rcases (hb' x hx).2.2 with h | h
      · exact h4 i j x hij hi hj h hx2
      · have := blk_in j x hj hx2; omega
    · simp only [if_neg e]
      by_cases e2 : j = t
      · subst e2
        simp only [if_pos]
        intro hx hx2
        rcases (hb' x hx2).2.2 with h | h
        · exact h4 i j x hij hi hj hx h
        · have := blk_in i x hi hx; omega
      · simp only [if_neg e2]
        exact h4 i j x hij hi hj
end Go.Proofs.Ytlafkkekfkamoaa
