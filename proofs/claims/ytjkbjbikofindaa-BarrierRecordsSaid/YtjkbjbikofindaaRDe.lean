/-
  Package remset as it landed: a slot put into a row of the call's own; Insert.
-/
import Derived.Test.YtjkbjbikofindaaRDd
import Derived.Test.YtjkbjbikofindaaRDv
import Derived.Test.YtjkbjbikofindaaRDc
namespace Go.Proofs.Ytjkbjbikofindaa
open Go.RowKit
set_option maxRecDepth 100000
set_option linter.unusedVariables false

theorem fill_far {g : Nat} {k : Nat} (hk : k ≠ g) : ∀ (vs : List Value) (o : Nat) (w : World), (w.setCells g o vs).heap[k]? = w.heap[k]?
  | [], _, _ => rfl
  | v :: r, o, w => by
    rw [World.setCells, fill_far hk r]
    exact Below.heap_setCell w ⟨g, o, none⟩ v k hk
theorem fill_size {g : Nat} : ∀ (vs : List Value) (o : Nat) (w : World), (w.setCells g o vs).heap.size = w.heap.size
  | [], _, _ => rfl
  | v :: r, o, w => by rw [World.setCells, fill_size r]; simp [World.setCell]
theorem grown_drew {w w' : World} {row : Option Nat} (h : w.drew.grownBy w' row) : w.grownBy w' row := ⟨h.os, h.tape, h.output, h.size, h.block⟩
theorem grown_trans {a b c : World} {row : Option Nat} (h : a.grownBy b row) (h2 : b.grownBy c row) : a.grownBy c row :=
  ⟨h2.os.trans h.os, h2.tape.trans h.tape, h2.output.trans h.output, Nat.le_trans h.size h2.size, fun k hk hn => (h2.block k (Nat.lt_of_lt_of_le hk h.size) hn).trans (h.block k hk hn)⟩
theorem fill_grown {g : Nat} : ∀ (vs : List Value) (o : Nat) (w : World), w.grownBy (w.setCells g o vs) (some g)
  | [], _, _ => ⟨rfl, rfl, rfl, Nat.le_refl _, fun _ _ _ => rfl⟩
  | v :: r, o, w => by
    rw [World.setCells]
    have h1 : w.grownBy (w.setCell ⟨g, o, none⟩ v) (some g) := ⟨rfl, rfl, rfl, by simp [World.setCell], fun k hk hne => Below.heap_setCell w ⟨g, o, none⟩ v k (fun e => hne (by rw [e]))⟩
    exact grown_trans h1 (fill_grown r (o + 1) _)
theorem fill_row {g : Nat} {t : TypeId} : ∀ (vs : List Value) (o : Nat) (w : World) (cur : Array Value), Blk w g t cur → o + vs.length ≤ cur.size →
    ∃ cur', Blk (w.setCells g o vs) g t cur' ∧ cur'.size = cur.size ∧ ∀ j, cur'[j]? = if o ≤ j ∧ j < o + vs.length then vs[j - o]? else cur[j]?
  | [], o, w, cur, h, _ => ⟨cur, h, rfl, fun j => by rw [if_neg (by simp <;> omega)]⟩
  | v :: r, o, w, cur, h, hl => by
    simp at hl
    obtain ⟨cur', h1, h2, h3⟩ := fill_row r (o + 1) _ _ (h.set_ o v) (by simp <;> omega)
    refine ⟨cur', by rw [World.setCells]; exact h1, by rw [h2]; simp, fun j => ?_⟩
    rw [h3]
    by_cases hj : j = o
    · subst hj
      rw [if_neg (by omega), if_pos (by simp), Nat.sub_self, Array.getElem?_setIfInBounds_self_of_lt (by omega)]
      rfl
    · by_cases hj2 : o + 1 ≤ j ∧ j < o + 1 + r.length
      · rw [if_pos hj2, if_pos (by simp <;> omega), show j - o = (j - (o + 1)) + 1 by omega]
        rfl
      · rw [if_neg hj2, if_neg (by simp <;> omega), Array.getElem?_setIfInBounds_ne (by omega)]
theorem ins_get {C : List Value} {i j : Nat} {u : Value} (hi : i ≤ C.length) : (C.take i ++ [u] ++ C.drop i)[j]? = if j < i then C[j]? else if j = i then some u else C[j - 1]? := by
  have hl : (C.take i).length = i := by simp; omega
  by_cases h1 : j < i
  · rw [if_pos h1, List.getElem?_append_left (by simp <;> omega), List.getElem?_append_left (by omega), List.getElem?_take, if_pos h1]
  · rw [if_neg h1]
    by_cases h2 : j = i
    · subst h2
      rw [if_pos rfl, List.getElem?_append_left (by simp <;> omega), List.getElem?_append_right (by omega), hl, Nat.sub_self]
      rfl
    · rw [if_neg h2, List.getElem?_append_right (by simp <;> omega), List.getElem?_drop]
      congr 1
      simp
      omega
theorem row_ins {C : List Value} {cur : Array Value} {i : Nat} {u : Value} (hi : i ≤ C.length) (hs : C.length + 1 ≤ cur.size) (h : ∀ j, j < C.length + 1 → cur[j]? = if j < i then C[j]? else if j = i then some u else C[j - 1]?) :
    cur.toList.take (C.length + 1) = C.take i ++ [u] ++ C.drop i := by
  apply List.ext_getElem?
  intro j
  by_cases hj : j < C.length + 1
  · rw [List.getElem?_take, if_pos hj, ins_get hi, ← h j hj]
    simp
  · rw [List.getElem?_eq_none (by simp <;> omega), List.getElem?_eq_none (by simp <;> omega)]
theorem numC_ins (S : List Int) (i : Nat) (s : Int) : numC (S.take i ++ [s] ++ S.drop i) = (numC S).take i ++ [.int .i64 s] ++ (numC S).drop i := by
  simp [numC, List.map_take, List.map_drop]
theorem numC_one' {S : List Int} {u : Value} (hu : u ∈ numC S) : u.oneCell' = true := numC_one S u hu

/-- What slices.Insert of a slot answers. -/
def PutN (v : Value) (T : List Int) (B : Nat) (w : World) (e : Ending) (w' : World) : Prop := ∃ v', e = .returned v' ∧ w'.ownsRow B 3 1 v' T.length (numC T) ∧ w.grownBy w' v.ownBlock
set_option maxHeartbeats 2000000 in
theorem insN_any (v : Value) (S : List Int) (s : Int) (i vb B : Nat) (w : World) (hv : w.ownsRow B 3 1 v S.length (numC S)) (hvb : Blk w vb 3 #[.int .i64 s]) (hne : v.ownBlock ≠ some vb) (hi : i ≤ S.length) (hl : S.length ≤ 1048576) (hB : B ≤ w.heap.size) :
    Calls Try.prog 59 #[v, .int .i64 i, .slice (some ⟨vb, 0, none⟩) 1 1] w (PutN v (S.take i ++ [s] ++ S.drop i) B w) := by
  have hTl : (S.take i ++ [s] ++ S.drop i).length = S.length + 1 := by simp; omega
  have hCl : (numC S).length = S.length := numC_length S
  have hvs : ∀ (j : Nat) (u : Value), [Value.int .i64 s][j]? = some u → w.cell? ⟨vb, 0 + j, none⟩ = some u := by
    intro j u hj
    rcases j with _ | j
    · rw [hvb.cell]; simpa using hj
    · simp at hj
  have h1v : ∀ u ∈ [Value.int .i64 s], u.oneCell' = true := fun u hu => by
    simp at hu
    subst hu
    rfl
  unfold PutN
  rw [hTl, numC_ins]
  obtain ⟨_, ⟨rfl, h0⟩ | ⟨g, cap, cur, rfl, hg, hb, hc, hm, hs, htk⟩⟩ := hv
  · have hS : S = [] := List.length_eq_zero_iff.1 h0
    subst hS
    obtain rfl : i = 0 := by simpa using hi
    have h := Any2.slices_Insert_int_end_grow Try.laysNm221 none 0 0 vb 0 1 1 [] [.int .i64 s] w (by omega) (by omega) (by omega) (by omega) rfl rfl (fun _ => rfl) (fun a e => by cases e) hvs h1v
    refine Calls.mono h ?_
    rintro e w' ⟨rfl, rfl⟩
    have h1 := grownCap_ge w (0 + 1) 0 3
    have h2 := grownCap_le_maxLen w (0 + 1) 0 3 (by unfold maxLen; omega)
    refine ⟨_, rfl, ⟨by simp [numC], .inr ⟨w.heap.size, _, _, rfl, hB, heap_alloc_new w.drew _, h1, h2, ?_, ?_⟩⟩, grown_drew (World.grownBy_alloc _ _ _)⟩
    · show (_ ++ _ : Array Value).size = _
      rw [Array.size_append, size_zeroCells]
      simp [Value.cells]
      show 1 + (grownCap w (0 + 1) 0 3 - 1) = grownCap w (0 + 1) 0 3
      omega
    · rw [Array.toList_append, List.take_append_of_le_length (by simp)]
      simp [numC]
  · rw [Nat.mul_one] at hs htk
    have hcur : ∀ j, j < S.length → cur[j]? = (numC S)[j]? := fun j hj => by
      rw [← htk, List.getElem?_take, if_pos hj]
      simp
    have hcs : ∀ (j : Nat) (u : Value), (numC S)[j]? = some u → w.cell? ⟨g, 0 + j, none⟩ = some u := fun j u hj => by
      rw [cell_row hb, Nat.zero_add, hcur j (by have := get_lt hj; omega)]
      exact hj
    have hgv : vb ≠ g := fun e => hne (by rw [e]; rfl)
    by_cases hr : S.length + 1 ≤ cap
    · by_cases hin : i = S.length
      · subst hin
        have h := Any2.slices_Insert_int_end_room Try.laysNm221 g 0 S.length cap vb 0 1 1 [.int .i64 s] w (by omega) hr (by unfold maxLen at hm; omega) rfl
          (fun j hj => by rw [cell_row hb, Array.getElem?_eq_getElem (by omega)]; rfl) (fun j hj => free_row hb) hvs h1v
        refine Calls.mono h ?_
        rintro e w' ⟨rfl, rfl⟩
        obtain ⟨cur', f1, f2, f3⟩ := fill_row [.int .i64 s] (0 + S.length) w cur hb (by simp <;> omega)
        refine ⟨_, rfl, ⟨by simp [numC], .inr ⟨g, cap, cur', rfl, hg, f1, hr, hm, by omega, ?_⟩⟩, fill_grown _ _ _⟩
        · rw [Nat.mul_one, ← hCl]
          refine row_ins (by omega) (by omega) fun j hj => ?_
          rw [f3]
          by_cases h1 : j < S.length
          · rw [if_neg (by simp <;> omega), if_pos (by omega), hcur j h1]
          · obtain rfl : j = S.length := by omega
            rw [if_pos (by simp), if_neg (by omega), if_pos (by omega)]
            simp
      · have hlt : i < S.length := by omega
        have h := Any2.slices_Insert_int_shift Try.laysNm221 g 0 S.length cap i vb 0 1 1 (numC S) [.int .i64 s] w hlt (by omega) hr (by unfold maxLen at hm; omega) hgv hCl rfl hcs
          (fun j hj => by rw [cell_row hb, Array.getElem?_eq_getElem (by omega)]; rfl) (fun j hj => free_row hb) hvs (numC_one S) h1v 3 3 1 cur.size (by rw [World.shape?, hvb]; rfl) (by rw [World.shape?, hb]) (by omega) (free_row hvb) (free_row hvb)
        refine Calls.mono h ?_
        rintro e w' ⟨rfl, rfl⟩
        obtain ⟨cur1, f1, f2, f3⟩ := fill_row ((numC S).drop i) (0 + (i + 1)) w.drew cur hb (by simp [hCl]; omega)
        obtain ⟨cur', g1, g2, g3⟩ := fill_row [.int .i64 s] (0 + i) _ cur1 f1 (by simp <;> omega)
        refine ⟨_, rfl, ⟨by simp [numC]; omega, .inr ⟨g, cap, cur', rfl, hg, g1, hr, hm, by omega, ?_⟩⟩, grown_drew (grown_trans (fill_grown _ _ _) (fill_grown _ _ _))⟩
        · rw [Nat.mul_one, ← hCl]
          refine row_ins (by omega) (by omega) fun j hj => ?_
          rw [g3, f3]
          by_cases h1 : j < i
          · rw [if_neg (by simp <;> omega), if_neg (by omega), if_pos h1, hcur j (by omega)]
          · by_cases h2 : j = i
            · subst h2
              rw [if_pos (by simp), if_neg h1, if_pos rfl]
              simp
            · rw [if_neg (by simp <;> omega), if_pos (by simp [hCl]; omega), if_neg h1, if_neg h2, List.getElem?_drop]
              congr 1
              omega
    · have hcs2 : ∀ a, some (⟨g, 0, none⟩ : Addr) = some a → ∀ (j : Nat) (u : Value), (numC S)[j]? = some u → w.cell? (a.add j) = some u := by
        intro a e j u hj
        injection e with e
        subst e
        rw [add_at]
        exact hcs j u hj
      have h1 := grownCap_ge w (S.length + 1) cap 3
      have h2 := grownCap_le_maxLen w (S.length + 1) cap 3 (by unfold maxLen; omega)
      by_cases hin : i = S.length
      · subst hin
        have h := Any2.slices_Insert_int_end_grow Try.laysNm221 (some ⟨g, 0, none⟩) S.length cap vb 0 1 1 (numC S) [.int .i64 s] w (by omega) (by omega) (by omega) (by omega) hCl rfl (fun e => by cases e) hcs2 hvs h1v
        refine Calls.mono h ?_
        rintro e w' ⟨rfl, rfl⟩
        refine ⟨_, rfl, ⟨by simp [numC], .inr ⟨w.heap.size, _, _, rfl, hB, heap_alloc_new w.drew _, h1, h2, ?_, ?_⟩⟩, grown_drew (World.grownBy_alloc _ _ _)⟩
        · show (_ ++ _ : Array Value).size = _
          rw [Array.size_append, size_zeroCells]
          simp [Value.cells, hCl]
          show S.length + 1 + (grownCap w (S.length + 1) cap 3 - (S.length + 1)) = grownCap w (S.length + 1) cap 3
          omega
        · rw [Array.toList_append, List.take_append_of_le_length (by simp [hCl])]
          have e1 : (numC S).take S.length = numC S := List.take_of_length_le (by omega)
          have e2 : (numC S).drop S.length = [] := List.drop_eq_nil_of_le (by omega)
          rw [e1, e2, List.append_nil]
          exact List.take_of_length_le (by simp [hCl])
      · have hlt : i < S.length := by omega
        have h := Any2.slices_Insert_int_grow Try.laysNm221 g 0 S.length cap i vb 0 1 1 (numC S) [.int .i64 s] w hlt (by omega) (by omega) (by omega) (by omega) hCl rfl hcs hvs (numC_one S) h1v
        refine Calls.mono h ?_
        rintro e w' ⟨rfl, rfl⟩
        obtain ⟨ROW, hROW⟩ : ∃ R : Array Value, R = ((numC S).take i).toArray ++ Builtin.zeroCells (Value.int .i64 0).cells (S.length + 1 - i) ++ Builtin.zeroCells (Value.int .i64 0).cells (grownCap w (S.length + 1) cap 3 - (S.length + 1)) := ⟨_, rfl⟩
        have hRs : ROW.size = grownCap w (S.length + 1) cap 3 := by
          rw [hROW, Array.size_append, Array.size_append, size_zeroCells, size_zeroCells]
          simp [Value.cells, hCl]
          omega
        have hRi : ∀ j, j < i → ROW[j]? = (numC S)[j]? := fun j hj => by
          rw [hROW, Array.append_assoc, Array.getElem?_append_left (by simp [hCl]; omega)]
          simp [hj]
        obtain ⟨cur1, f1, f2, f3⟩ := fill_row [.int .i64 s] i _ ROW (show Blk (w.alloc (.cells ROW 3)).drew w.heap.size 3 ROW from heap_alloc_new w _) (by simp; omega)
        obtain ⟨cur', g1, g2, g3⟩ := fill_row ((numC S).drop i) (i + 1) _ cur1 (show Blk (((w.alloc (.cells ROW 3)).drew.setCells w.heap.size i [.int .i64 s]).drew) w.heap.size 3 cur1 from f1) (by simp [hCl]; omega)
        rw [hROW] at g1
        refine ⟨_, rfl, ⟨by simp [numC]; omega, .inr ⟨w.heap.size, _, cur', rfl, hB, g1, h1, h2, by rw [g2, f2, hRs]; exact (Nat.mul_one _).symm, ?_⟩⟩, ?_⟩
        · rw [Nat.mul_one, ← hCl]
          refine row_ins (by omega) (by omega) fun j hj => ?_
          rw [g3, f3]
          by_cases h1 : j < i
          · rw [if_neg (by simp; omega), if_neg (by simp; omega), if_pos h1, hRi j h1]
          · by_cases h2 : j = i
            · subst h2
              rw [if_neg (by omega), if_pos (by simp), if_neg h1, if_pos rfl]
              simp
            · rw [if_pos (by simp [hCl]; omega), if_neg h1, if_neg h2, List.getElem?_drop]
              congr 1
              omega
        · refine ⟨?_, ?_, ?_, ?_, fun k hk _ => ?_⟩
          · exact ((fill_grown (g := w.heap.size) _ _ (World.drew _)).os).trans (fill_grown (g := w.heap.size) _ _ (World.drew _)).os
          · exact ((fill_grown (g := w.heap.size) _ _ (World.drew _)).tape).trans (fill_grown (g := w.heap.size) _ _ (World.drew _)).tape
          · exact ((fill_grown (g := w.heap.size) _ _ (World.drew _)).output).trans (fill_grown (g := w.heap.size) _ _ (World.drew _)).output
          · rw [fill_size]
            show _ ≤ (World.setCells _ _ _ _).heap.size
            rw [fill_size]
            show _ ≤ (w.alloc _).heap.size
            simp
          · rw [fill_far (by omega)]
            show (World.setCells _ _ _ _).heap[k]? = _
            rw [fill_far (by omega)]
            exact Below.heap_alloc w _ k hk

section
variable {w : World} {B g N : Nat} {L : List SetR}
/-- The slots of one set, which may be replaced. -/
theorem Deep.pick (h : Deep w B g N L) {k : Nat} {x : SetR} (hk : L[k]? = some x) : ∃ v, w.cell? ⟨g, k * 3 + 2, none⟩ = some v ∧ w.frozen? ⟨g, k * 3 + 2, none⟩ = false ∧ w.ownsRow (g + 1) 3 1 v x.sl.length (numC x.sl) ∧
    ∀ (w2 : World) (v' : Value) (S' : List Int), w.grownBy w2 v.ownBlock → w2.ownsRow (g + 1) 3 1 v' S'.length (numC S') → L.length = N → N ≤ maxLen →
      TArr (w2.setCell ⟨g, k * 3 + 2, none⟩ v') (Lt w2.heap.size) (some ⟨g, 0, none⟩) N (L.set k ⟨x.fr, x.tg, S'⟩) := by
  obtain ⟨cur, h1, h2, h3, h4, h5, h6⟩ := h
  obtain ⟨a0, a1, v, a2, a3⟩ := h5 k x hk
  have hkl := get_lt hk
  refine ⟨v, by rw [h1.cell]; exact a2, h1.frozen _, a3, fun w2 v' S' hg hv' hN hm => ?_⟩
  have hne : some g ≠ v.ownBlock := fun e => by have := (a3.lt g e.symm).1; omega
  have k1 : Blk w2 g 57 cur := (hg.block g h1.lt hne).trans h1
  have k2 := k1.set_ (k * 3 + 2) v'
  have far : ∀ b, b ≠ g → (w2.setCell ⟨g, k * 3 + 2, none⟩ v').heap[b]? = w2.heap[b]? := fun b hb => Below.heap_setCell _ ⟨g, k * 3 + 2, none⟩ _ b hb
  have hsz : (w2.setCell ⟨g, k * 3 + 2, none⟩ v').heap.size = w2.heap.size := by simp [World.setCell]
  refine ⟨by simp; omega, hm, (fun e => by cases e), fun _ => ⟨g, 0, rfl, k1.lt, fun j y hj => ?_⟩⟩
  rw [k2.cell, k2.cell, k2.cell, Nat.zero_add]
  have hjl := get_lt hj
  simp at hjl
  rw [Array.getElem?_setIfInBounds_ne (by omega), Array.getElem?_setIfInBounds_ne (by omega)]
  by_cases e : k = j
  · subst e
    rw [List.getElem?_set_self hkl] at hj
    injection hj with hj
    subst hj
    obtain ⟨A, c, rfl, hS⟩ := sarr_row (ownsRow_keep (w' := w2.setCell ⟨g, k * 3 + 2, none⟩ v') hv' fun b hb hb2 _ => far b (by omega))
    rw [hsz] at hS
    rw [Array.getElem?_setIfInBounds_self_of_lt (by omega)]
    exact ⟨a0, a1, A, c, rfl, hS⟩
  · rw [List.getElem?_set_ne e] at hj
    obtain ⟨b0, b1, u, b2, b3⟩ := h5 j y hj
    have hub : ∀ b, u.ownBlock = some b → some b ≠ v.ownBlock := fun b hb hb2 => by
      rcases (by omega : j < k ∨ k < j) with hjk | hjk
      · exact h6 j k u v b hjk hkl b2 a2 hb hb2.symm
      · exact h6 k j v u b hjk hjl a2 b2 hb2.symm hb
    obtain ⟨A, c, rfl, hS⟩ := sarr_row (ownsRow_keep (w' := w2.setCell ⟨g, k * 3 + 2, none⟩ v') b3 fun b hb hb2 hlt => (far b (by omega)).trans (hg.block b hlt (hub b hb)))
    rw [hsz] at hS
    rw [Array.getElem?_setIfInBounds_ne (by omega)]
    exact ⟨b0, b1, A, c, b2, hS⟩
end
theorem putS_none {L : List SetR} {f g s : Int} {n : Nat} (hn : n ≤ L.length) (hlo : ∀ (j : Nat) (x : SetR), j < n → L[j]? = some x → bef x.fr x.tg f g) (hhi : ∀ (j : Nat) (x : SetR), n ≤ j → L[j]? = some x → ¬ bef x.fr x.tg f g)
    (hq : ¬ ∃ x, L[n]? = some x ∧ x.fr = f ∧ x.tg = g) : putS f g s L = L.take n ++ [⟨f, g, [s]⟩] ++ L.drop n := by
  rw [putS_at L n hn hlo (fun x hx => hhi n x (Nat.le_refl _) hx)]
  cases hx : L[n]? with
  | none =>
    have := List.getElem?_eq_none_iff.1 hx
    dsimp only
    rw [List.take_of_length_le this, List.drop_eq_nil_of_le this, List.append_nil]
  | some x =>
    dsimp only
    rw [if_pos (bef_of (hhi n x (Nat.le_refl _) hx) fun h => hq ⟨x, hx, h⟩)]
theorem putS_some {L : List SetR} {f g s : Int} {n : Nat} {x : SetR} (hn : n ≤ L.length) (hlo : ∀ (j : Nat) (x : SetR), j < n → L[j]? = some x → bef x.fr x.tg f g) (hhi : ∀ (j : Nat) (x : SetR), n ≤ j → L[j]? = some x → ¬ bef x.fr x.tg f g)
    (hx : L[n]? = some x) (h1 : x.fr = f) (h2 : x.tg = g) : putS f g s L = L.set n ⟨x.fr, x.tg, withL s x.sl⟩ := by
  rw [putS_at L n hn hlo (fun x hx => hhi n x (Nat.le_refl _) hx), hx]
  simp only
  rw [if_neg (by rw [h1, h2]; exact bef_irrefl _ _)]

/-- A set put into a row that may be read. -/
theorem insT_any (g i vb vs0 : Nat) (f t s : Int) (L : List SetR) (w : World) (hL : TArr w (Lt w.heap.size) (some ⟨g, 0, none⟩) L.length L) (hi : i ≤ L.length) (hn : L.length ≤ 1048576) (hgl : g < w.heap.size)
    (hv0 : w.cell? ⟨vb, 0, none⟩ = some (.int .i64 f)) (hv1 : w.cell? ⟨vb, 1, none⟩ = some (.int .i64 t)) (hv2 : w.cell? ⟨vb, 2, none⟩ = some (.slice (some ⟨vs0, 0, none⟩) 1 1)) (hs : w.cell? ⟨vs0, 0, none⟩ = some (.int .i64 s)) :
    Calls Try.prog 57 #[.slice (some ⟨g, 0, none⟩) L.length L.length, .int .i64 i, .slice (some ⟨vb, 0, none⟩) 1 1] w fun e w' => ∃ A c, e = .returned (.slice A (L.take i ++ ([⟨f, t, [s]⟩] : List SetR) ++ L.drop i).length c) ∧ TArr w' (Lt w'.heap.size) A c (L.take i ++ ([⟨f, t, [s]⟩] : List SetR) ++ L.drop i) ∧ Below w.heap.size w w' := by
  obtain ⟨cs, hset, hcell⟩ := hL.src
  have hS1 : SArr w (Lt w.heap.size) (some ⟨vs0, 0, none⟩) 1 [s] := ⟨by simp, by unfold maxLen; omega, (fun e => by cases e), fun _ => ⟨vs0, 0, rfl, cell_lt hs, fun j u hj => by
    rcases j with _ | j
    · simp at hj; subst hj; exact hs
    · simp at hj⟩⟩
  have hnew : SetV w (Lt w.heap.size) [.int .i64 f, .int .i64 t, .slice (some ⟨vs0, 0, none⟩) 1 1] [⟨f, t, [s]⟩] := SetV.single (x := ⟨f, t, [s]⟩) hS1
  have h := insS_any g L.length i vb cs [.int .i64 f, .int .i64 t, .slice (some ⟨vs0, 0, none⟩) 1 1] w hi hn hset.1 rfl hgl (fun j u hj => by have := hcell j u hj; rw [add_at] at this; simpa using this)
    (fun j u hj => by
      rcases j with _ | _ | _ | j <;> simp at hj <;> subst hj <;> assumption) hset.one hnew.one
  refine h.mono ?_
  rintro e w' ⟨v, rfl, hown, hb⟩
  have hall := ((hset.take i hi).append hnew).append (hset.drop i)
  have hlen : (L.take i ++ ([⟨f, t, [s]⟩] : List SetR) ++ L.drop i).length = L.length + 1 := by simp; omega
  have hT : TOwn w' w.heap.size w.heap.size v (L.take i ++ ([⟨f, t, [s]⟩] : List SetR) ++ L.drop i) :=
    ⟨Nat.le_refl _, _, by rw [hlen]; exact hown, hall.mono fun A c S hS => ((hS.below hb).mono fun b hb => .inl hb)⟩
  obtain ⟨A, c, rfl, hA⟩ := hT.tarr
  exact ⟨A, c, rfl, hA, hb⟩

set_option maxHeartbeats 8000000 in
theorem devInsert_any (A : Option Addr) (c : Nat) (L : List SetR) (w : World) (hL : TArr w (Lt w.heap.size) A c L) (f g s : Int) (hn : L.length ≤ 1048000) (hs : ∀ x ∈ L, x.sl.length ≤ 1048000) :
    Calls Try.prog 30 #[.slice A L.length c, .int .i64 f, .int .i64 g, .int .i64 s] w (InsOf L f g s w) := by
  have HL := Lib.hid hL
  have HSL := Lib.hid hs
  obtain ⟨q1, hq1⟩ : ∃ q, decide (numP f) = q := ⟨_, rfl⟩
  obtain ⟨q2, hq2⟩ : ∃ q, decide (numP g) = q := ⟨_, rfl⟩
  obtain ⟨q3, hq3⟩ : ∃ q, decide (s < 0) = q := ⟨_, rfl⟩
  have HQ1 := Lib.hid hq1
  have HQ2 := Lib.hid hq2
  have HQ3 := Lib.hid hq3
  have HBIG := Lib.hid hn
  clear hL hs hq1 hq2
  go_enter Try.func30, Try.ntmps30
  go_wp2_with fail
  refine (devValid_any A c L w HL.out).mono ?_
  rintro e W1 ⟨q, rfl, hq, hb⟩
  have HQ := Lib.hid hq
  have HB := Lib.hid hb
  clear hq hb
  have HNO : Hid (q = false ∨ q1 = false ∨ q2 = false ∨ q3 = true → ¬ (ValS L ∧ numP f ∧ numP g ∧ 0 ≤ s)) := Lib.hid (by
    rintro h ⟨h1, h2, h3, h4⟩
    rcases h with h | h | h | h
    · have := HQ.out.2 h1; rw [h] at this; exact absurd this (by decide)
    · rw [h] at HQ1; exact (of_decide_eq_false HQ1.out) h2
    · rw [h] at HQ2; exact (of_decide_eq_false HQ2.out) h3
    · rw [h] at HQ3; have := of_decide_eq_true HQ3.out; omega)
  cases q with
  | false =>
    go_wp2_with fail
    go_ret2
    exact ⟨_, _, rfl, HB.out, .inr ⟨HNO.out (.inl (by first | rfl | trivial)), rfl, rfl⟩⟩
  | true =>
    go_wp2_with fail
    refine (isFrameT_any f W1).mono ?_
    rintro e W2 ⟨rfl, rfl⟩
    rw [HQ1.out]
    cases q1 with
    | false =>
      go_wp2_with fail
      go_ret2
      exact ⟨_, _, rfl, HB.out, .inr ⟨HNO.out (.inr (.inl (by first | rfl | trivial))), rfl, rfl⟩⟩
    | true =>
      go_wp2_with fail
      refine (isFrameT_any g W2).mono ?_
      rintro e W3 ⟨rfl, rfl⟩
      rw [HQ2.out]
      cases q2 with
      | false =>
        go_wp2_with fail
        go_ret2
        exact ⟨_, _, rfl, HB.out, .inr ⟨HNO.out (.inr (.inr (.inl (by first | rfl | trivial)))), rfl, rfl⟩⟩
      | true =>
        cases q3 with
        | true =>
          go_wp2_with fail
          go_ret2
          exact ⟨_, _, rfl, HB.out, .inr ⟨HNO.out (.inr (.inr (.inr (by first | rfl | trivial)))), rfl, rfl⟩⟩
        | false =>
          have HOK : Hid (ValS L ∧ numP f ∧ numP g ∧ 0 ≤ s) := Lib.hid ⟨HQ.out.1 (by first | rfl | trivial), of_decide_eq_true HQ1.out, of_decide_eq_true HQ2.out, by have := of_decide_eq_false HQ3.out; omega⟩
          go_wp2_with fail
          refine (cloneT_any A c L W3 (HL.out.next HB.out) (by have := HBIG.out; omega) (fun x hx => by have := HSL.out x hx; omega)).mono ?_
          rintro e W4 ⟨b, rfl, hd, hb4⟩
          have HD := Lib.hid hd
          have HB4 := Lib.hid (below_next HB.out (Nat.le_refl _) hb4)
          have HT4 := Lib.hid (hd.tarr (by have := HBIG.out; unfold maxLen; omega))
          clear hd hb4
          go_wp2_with fail
          refine (position_any (some ⟨b, 0, none⟩) L.length L f g W4 HT4.out HOK.out.1.2 (by have := HBIG.out; omega)).mono ?_
          rintro e W5 ⟨n, q, rfl, hnl, hlo, hhi, hq, hb5⟩
          have HLO := Lib.hid hlo
          have HHI := Lib.hid hhi
          have HQ5 := Lib.hid hq
          have HB5 := Lib.hid (below_next HB4.out (Nat.le_refl _) hb5)
          have HD5 := Lib.hid (HD.out.next hb5)
          have HT5 := Lib.hid (HT4.out.next hb5)
          clear hlo hhi hq hb5
          cases q with
          | false =>
            have HPUT := Lib.hid (putS_none (s := s) hnl HLO.out HHI.out (fun h => absurd (HQ5.out.2 h) (by decide)))
            obtain ⟨W6, hW6⟩ : ∃ W6, W6 = (W5.alloc (.cells #[.int .i64 s] 3)).alloc (.cells #[.int .i64 f, .int .i64 g, .slice (some ⟨W5.heap.size, 0, none⟩) 1 1] 57) := ⟨_, rfl⟩
            have B1 : Blk W6 W5.heap.size 3 #[.int .i64 s] := by rw [hW6]; exact (Blk.new _ _ _).alloc _
            have B2 : Blk W6 (W5.heap.size + 1) 57 #[.int .i64 f, .int .i64 g, .slice (some ⟨W5.heap.size, 0, none⟩) 1 1] := by rw [hW6]; exact Blk.newAt _ _ _ _ (by simp)
            have hb6 : Below W5.heap.size W5 W6 := by rw [hW6]; exact ((Below.refl _ _).alloc (Nat.le_refl _) _).alloc (by simp) _
            have HW6 := Lib.hid hW6
            have HB6 := Lib.hid (below_next HB5.out (Nat.le_refl _) hb6)
            have HC := Lib.hid (insT_any b n (W5.heap.size + 1) W5.heap.size f g s L W6 (HT5.out.next hb6) hnl (by have := HBIG.out; omega) (by obtain ⟨_, h, _⟩ := HD5.out; have := h.lt; have := hb6.size; omega) (B2.cell 0) (B2.cell 1) (B2.cell 2) (B1.cell 0))
            rw [← HPUT.out] at HC
            clear hW6 B1 B2 hb6
            go_wp2_with fail
            rw [← HW6.out]
            refine HC.out.mono ?_
            rintro e W7 ⟨A9, c9, rfl, h9, hb7⟩
            have H9 := Lib.hid h9
            have HB7 := Lib.hid (below_next HB6.out (Nat.le_refl _) hb7)
            clear h9 hb7
            go_wp2_with fail
            go_ret2
            exact ⟨_, _, rfl, HB7.out, .inl ⟨HOK.out.1, HOK.out.2.1, HOK.out.2.2.1, HOK.out.2.2.2, rfl, A9, c9, rfl, H9.out⟩⟩
          | true =>
            obtain ⟨x, hx, hxf, hxg⟩ := HQ5.out.1 (by first | rfl | trivial)
            have hnlt := get_lt hx
            have hnlt2 : 0 ≤ (n : Int) ∧ (n : Int) < L.length := by omega
            have hmem := List.mem_iff_getElem?.2 ⟨n, hx⟩
            have HPUT := Lib.hid (putS_some (s := s) hnl HLO.out HHI.out hx hxf hxg)
            have HX := Lib.hid hx
            have HXS := Lib.hid (And.intro (HOK.out.1.1 x hmem).2.2.2.2 (HSL.out x hmem))
            obtain ⟨v, hv1, hv2, hv3, hv4⟩ := HD5.out.pick hx
            obtain ⟨A3, c3, rfl, hS⟩ := sarr_row hv3
            have hlb : b < W5.heap.size := cell_lt hv1
            have HV2 := Lib.hid hv2
            have HV3 := Lib.hid hv3
            have HV4 := Lib.hid hv4
            have HGE : Hid (w.heap.size ≤ b) := Lib.hid (by obtain ⟨_, _, h, _⟩ := HD5.out; exact Nat.le_trans HB.out.size h)
            have HSN := Lib.hid (searchN_any A3 c3 x.sl s W5 hS HXS.out.1 (by have := HXS.out.2; omega))
            have HP1 := Lib.hid hv1
            clear hx hxf hxg hmem hv2 hv3 hv4 hS
            go_wp2_with fail
            refine HSN.out.mono ?_
            rintro e W6 ⟨m, q6, rfl, hml, hlo, hhi, hq, hat, hb6⟩
            have HAT := Lib.hid (withL_at x.sl m hml hlo hhi)
            have HQ6 := Lib.hid hq
            have HAS := Lib.hid hat
            have HB6 := Lib.hid hb6
            have p6 : W6.cell? ⟨b, n * 3 + 2, none⟩ = some (.slice A3 x.sl.length c3) := (hb6.cell (p := ⟨b, n * 3 + 2, none⟩) hlb).trans HP1.out
            have hlb6 : b < W6.heap.size := cell_lt p6
            clear hlo hhi hq hb6 hv1 hat hlb
            cases q6 with
            | true =>
              have hE : putS f g s L = L := by
                rw [HPUT.out, HAT.out, if_pos (HAS.out (HQ6.out.1 (by first | rfl | trivial)))]
                apply List.ext_getElem?
                intro j
                by_cases e : n = j
                · subst e
                  rw [List.getElem?_set_self (by simpa using hnlt), HX.out]
                · rw [List.getElem?_set_ne e]
              have HE := Lib.hid hE
              clear hE
              go_wp2_with fail
              go_ret2
              exact ⟨_, _, rfl, below_next HB5.out (Nat.le_refl _) HB6.out, .inl ⟨HOK.out.1, HOK.out.2.1, HOK.out.2.2.1, HOK.out.2.2.2, rfl, some ⟨b, 0, none⟩, L.length, by rw [HE.out]; rfl, by rw [HE.out]; exact HT5.out.next HB6.out⟩⟩
            | false =>
              have HW : Hid (withL s x.sl = x.sl.take m ++ [s] ++ x.sl.drop m) := Lib.hid (by
                rw [HAT.out, if_neg fun h => absurd (HQ6.out.2 (List.mem_iff_getElem?.2 ⟨m, h⟩)) (by decide)])
              obtain ⟨T, hT⟩ : ∃ T, T = x.sl.take m ++ [s] ++ x.sl.drop m := ⟨_, rfl⟩
              rw [← hT] at HW
              obtain ⟨W7, hW7⟩ : ∃ W7, W7 = W6.alloc (.cells #[.int .i64 s] 3) := ⟨_, rfl⟩
              have B1 : Blk W7 W6.heap.size 3 #[.int .i64 s] := by rw [hW7]; exact Blk.new _ _ _
              have hb7 : Below W6.heap.size W6 W7 := by rw [hW7]; exact (Below.refl _ _).alloc (Nat.le_refl _) _
              have hb57 : Below W5.heap.size W5 W7 := HB6.out.trans (hb7.mono HB6.out.size)
              have HB57 := Lib.hid hb57
              have hrow7 : W7.ownsRow (b + 1) 3 1 (.slice A3 x.sl.length c3) x.sl.length (numC x.sl) := ownsRow_keep HV3.out fun k _ _ hk => hb57.block k hk
              have HC := Lib.hid (insN_any (.slice A3 x.sl.length c3) x.sl s m W6.heap.size (b + 1) W7 hrow7 B1 (fun e => by
                have h1 := (HV3.out.lt _ e).2
                have h2 := HB6.out.size
                omega) hml (by have := HXS.out.2; omega) (by have := hb7.size; omega))
              rw [← hT] at HC
              have HW7 := Lib.hid hW7
              clear hT
              clear hW7 B1 hb7 hb57 hrow7
              go_wp2_with fail
              rw [← HW7.out]
              refine HC.out.mono ?_
              rintro e W8 ⟨v', rfl, hown, hgr⟩
              obtain ⟨A8, c8, rfl, _⟩ := row_slice hown
              have hg58 : W5.grownBy W8 (Value.slice A3 x.sl.length c3).ownBlock := grown_trans ⟨HB57.out.os, HB57.out.tape, HB57.out.output, HB57.out.size, fun k hk _ => HB57.out.block k hk⟩ hgr
              have hnb : some b ≠ (Value.slice A3 x.sl.length c3).ownBlock := fun e => by have := (HV3.out.lt b e.symm).1; omega
              have hbb : W8.heap[b]? = W5.heap[b]? := hg58.block b (cell_lt HP1.out) hnb
              have f8 : W8.cell? ⟨b, n * 3 + 2, none⟩ = some (.slice A3 x.sl.length c3) := (World.cell?_of_block hbb).trans HP1.out
              have z8 : W8.frozen? ⟨b, n * 3 + 2, none⟩ = false := by
                have h : W8.frozen? ⟨b, n * 3 + 2, none⟩ = W5.frozen? ⟨b, n * 3 + 2, none⟩ := by simp only [World.frozen?]; rw [hbb]
                rw [h]; exact HV2.out
              have hlb8 : b < W8.heap.size := cell_lt f8
              have HT9 := Lib.hid (HV4.out W8 _ _ hg58 hown (by first | rfl | trivial) (by have := HBIG.out; unfold maxLen; omega))
              rw [show L.set n ⟨x.fr, x.tg, T⟩ = putS f g s L from by rw [HPUT.out, HW.out]] at HT9
              have HLEN : Hid ((putS f g s L).length = L.length) := Lib.hid (by rw [HPUT.out, List.length_set])
              have HB9 : Hid (Below w.heap.size w (W8.setCell ⟨b, n * 3 + 2, none⟩ (.slice A8 T.length c8))) := Lib.hid ((HB5.out.trans (grown_below hg58 (fun k hk => by have := (HV3.out.lt k hk).1; have := HGE.out; omega) HB5.out.size)).setCell (p := ⟨b, n * 3 + 2, none⟩) HGE.out _)
              clear hown hgr hg58 hnb hbb
              go_wp2_with fail
              go_ret2
              refine ⟨_, _, rfl, HB9.out, .inl ⟨HOK.out.1, HOK.out.2.1, HOK.out.2.2.1, HOK.out.2.2.2, rfl, some ⟨b, 0, none⟩, L.length, by rw [HLEN.out]; rfl, ?_⟩⟩
              have h := HT9.out
              rw [show W8.heap.size = (W8.setCell ⟨b, n * 3 + 2, none⟩ (.slice A8 T.length c8)).heap.size by simp [World.setCell]] at h
              exact h
end Go.Proofs.Ytjkbjbikofindaa
