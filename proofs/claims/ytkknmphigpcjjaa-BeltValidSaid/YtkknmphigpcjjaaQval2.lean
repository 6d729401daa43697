/-
  Rows of belts: what BeltValid makes of the belts of a made space.
-/
import Derived.Test.YtkknmphigpcjjaaQfrm
import Derived.Test.YtkknmphigpcjjaaQref
import Derived.Test.YtkknmphigpcjjaaQaw
import Derived.Test.YtkknmphigpcjjaaQrrm
namespace Go.Proofs.Ytkknmphigpcjjaa
open Go.RowKit
set_option maxRecDepth 100000
set_option linter.unusedVariables false

section
variable {P : Program} (w : World)
theorem wp_append_fresh {o : Oper} {a : Act} {K : Act → World → Prop} {Q : Exit → Act → World → Prop} (s x : Operand) (t : TypeId)
    (ho : o.op = .call { callee := .builtin .append, args := #[s, x], argTypes := #[t, t] })
    (e : TypeId) (i : TypeInfo) (z : Value) (size bytes : Nat) (ht : P.underlying t = some (.slice e)) (hi : P.info? e = some i) (hz : i.zero = some z)
    (hsize : i.size = size) (hby : i.bytes = bytes) (hzs : z.cells.size = size) (hsz : 0 < size)
    (b : Addr) (n cap : Nat) (olds : List Value) (hs : a.eval s = .slice (some b) n cap) (hlo : olds.length = n * size) (holds : ∀ j u, olds[j]? = some u → w.cell? (b.add j) = some u)
    (ad : Addr) (m c : Nat) (news : List Value) (hx : a.eval x = .slice (some ad) m c) (hl : news.length = m * size) (hnews : ∀ j u, news[j]? = some u → w.cell? (ad.add j) = some u)
    (hg : cap < n + m) (h63 : n + m ≤ maxLen) (hbytes : (n + m) * bytes ≤ 140737488355328)
    (h : ∀ v' w', w'.ownsRow w.heap.size e size v' (n + m) (olds ++ news) → Below w.heap.size w w' → K (a.put o.dst v') w') : o.wp P a w K Q := by
  obtain ⟨v', w', hr, h2, h3⟩ := run_append_arg_grows (P := P) w t o.type e i z size bytes ht hi hz hsize hby hzs hsz b n cap olds hlo holds ad m c news hl hnews hg h63 hbytes
  unfold Oper.wp execOp
  simp only [ho, resolve, invoke, builtin, Sem.run_bind, Sem.run_pure, Result.andThen_ok, List.map_toArray, List.map_cons, List.map_nil, hs, hx, hr]
  exact h v' w' h2 ⟨h3.os, h3.tape, h3.output, h3.size, fun k hk => h3.block k hk (by simp)⟩
end

/-- The outer cells of belts as a source of append. -/
theorem QArr.src {w : World} {P : Nat → Prop} {b o c : Nat} {Q : List (List IncR)} (h : QArr w P (some ⟨b, o, none⟩) c Q) : ∃ vs : List Value, vs.length = Q.length ∧ (∀ j u, vs[j]? = some u → w.cell? ⟨b, o + j, none⟩ = some u ∧ u.oneCell' = true) ∧
    ∀ (j : Nat) (q : List IncR), Q[j]? = some q → ∃ A' c', vs[j]? = some (.slice A' q.length c') ∧ LArr w P A' c' q := by
  have h1 : ∀ j, j < Q.length → ∃ A' c', w.cell? ⟨b, o + j, none⟩ = some (.slice A' (Q.getD j []).length c') ∧ LArr w P A' c' (Q.getD j []) := by
    intro j hj
    obtain ⟨q, hq⟩ := nth_of hj
    obtain ⟨b', o', A', c', e, _, _, hc, hl⟩ := h.at_ hq
    injection e with e
    injection e with e1 e2
    subst e1 e2
    have : Q.getD j [] = q := by rw [List.getD_eq_getElem?_getD, hq]; rfl
    rw [this]
    exact ⟨A', c', hc, hl⟩
  obtain ⟨V, hV⟩ : ∃ V : Nat → Option Addr × Nat, ∀ j, j < Q.length → w.cell? ⟨b, o + j, none⟩ = some (.slice (V j).1 (Q.getD j []).length (V j).2) ∧ LArr w P (V j).1 (V j).2 (Q.getD j []) := by
    refine ⟨fun j => if hj : j < Q.length then (Classical.choose (h1 j hj), Classical.choose (Classical.choose_spec (h1 j hj))) else (none, 0), fun j hj => ?_⟩
    simp only [dif_pos hj]
    exact Classical.choose_spec (Classical.choose_spec (h1 j hj))
  refine ⟨(List.range Q.length).map fun j => .slice (V j).1 (Q.getD j []).length (V j).2, by simp, fun j u hu => ?_, fun j q hq => ?_⟩
  · have hj := get_lt hu
    simp at hj
    rw [List.getElem?_map, List.getElem?_range hj] at hu
    simp at hu
    subst hu
    exact ⟨by simpa using (hV j hj).1, rfl⟩
  · have hj := get_lt hq
    have e : Q.getD j [] = q := by rw [List.getD_eq_getElem?_getD, hq]; rfl
    refine ⟨(V j).1, (V j).2, ?_, by rw [← e]; exact (hV j hj).2⟩
    rw [List.getElem?_map, List.getElem?_range hj, ← e]
    rfl
/-- An empty belt ahead of the others. -/
theorem qarr_cons {w w' : World} {B : Nat} {A : Option Addr} {n C : Nat} {Q : List (List IncR)} {vs : List Value} (hvs : ∀ (j : Nat) (q : List IncR), Q[j]? = some q → ∃ A' c', vs[j]? = some (.slice A' q.length c') ∧ LArr w (Lt w.heap.size) A' c' q)
    (hb : Below w.heap.size w w') (hn : n = Q.length + 1) (h : w'.ownsRow B 31 1 (.slice A n C) n ([.slice none 0 0] ++ vs)) : QArr w' (Lt w'.heap.size) A C ([] :: Q) := by
  subst hn
  have ho : QOwn w' B (.slice A (Q.length + 1) C) ([] :: Q) (Lt w'.heap.size) := by
    refine ⟨_, by simpa using h, fun j q hj => ?_⟩
    rcases j with _ | j
    · simp at hj; subst hj
      exact ⟨none, 0, rfl, LArr.nil _ _⟩
    · obtain ⟨A', c', h1, h2⟩ := hvs j q (by simpa using hj)
      exact ⟨A', c', by simpa using h1, h2.next hb⟩
  obtain ⟨A2, C2, e, hq⟩ := qarr_of (P' := Lt w'.heap.size) ho (fun _ h => h) (fun b _ h => h)
  rw [List.length_cons] at e
  injection e with e1 e2 e3
  subst e1 e3
  exact hq
/-- An empty belt behind the others. -/
theorem qarr_push {w w' : World} {lo n C : Nat} {v : Value} {A : Option Addr} {Q : List (List IncR)} {V : Nat → Value} (h1 : w.ownsRow lo 31 1 v Q.length ((List.range Q.length).map V)) (h2 : ∀ (j : Nat) (q : List IncR), Q[j]? = some q → w.ownsRow lo 41 5 (V j) q.length (incCells q))
    (hg : w.grownBy w' v.ownBlock) (hn : n = Q.length + 1) (h : w'.ownsRow lo 31 1 (.slice A n C) n ((List.range Q.length).map V ++ [.slice none 0 0])) : QArr w' (Lt w'.heap.size) A C (Q ++ [[]]) := by
  subst hn
  have ho : QOwn w' lo (.slice A (Q.length + 1) C) (Q ++ [[]]) (Lt w'.heap.size) := by
    refine ⟨_, by simpa using h, fun j q hj => ?_⟩
    rcases (by have := get_lt hj; simp at this; omega : j < Q.length ∨ j = Q.length) with hjl | rfl
    · rw [List.getElem?_append_left hjl] at hj
      have hk : w'.ownsRow lo 41 5 (V j) q.length (incCells q) := ownsRow_keep (h2 j q hj) fun x hx _ hl => hg.block x hl (fun e => by
        obtain ⟨_, hh, _⟩ := row_t (h2 j q hj) hx
        obtain ⟨_, hh2, _⟩ := row_t h1 e.symm
        rw [hh] at hh2
        injection hh2 with hh2
        injection hh2 with _ hh2 _
        exact absurd hh2 (by decide))
      obtain ⟨A', c', e, hl⟩ := larr_of hk
      refine ⟨A', c', ?_, hl.lt⟩
      rw [List.getElem?_append_left (by simpa using hjl), List.getElem?_map, List.getElem?_range hjl]
      simp [e]
    · rw [List.getElem?_append_right (Nat.le_refl _), Nat.sub_self] at hj
      simp at hj
      subst hj
      exact ⟨none, 0, by rw [List.getElem?_append_right (by simp)]; simp, LArr.nil _ _⟩
  obtain ⟨A2, C2, e, hq⟩ := qarr_of (P' := Lt w'.heap.size) ho (fun _ h => h) (fun b _ h => h)
  rw [List.length_append] at e
  injection e with e1 e2 e3
  subst e1 e3
  exact hq
/-- The j-th belts of a row of such in block G. -/
def BAt (W : World) (G j : Nat) : Prop := ∃ (A : Option Addr) (n c : Nat) (Q : List (List IncR)), W.cell? ⟨G, j, none⟩ = some (.slice A n c) ∧ n = Q.length ∧ QArr W (Lt W.heap.size) A c Q ∧ lenQ Q ≤ 400
theorem bat6 {X L : World} {A0 A1 A2 A3 A4 A5 : Option Addr} {n0 c0 n1 c1 n2 c2 n3 c3 n4 c4 n5 c5 : Nat} {Q0 Q1 Q2 Q3 Q4 Q5 : List (List IncR)} (hc : Below X.heap.size X L)
    (h0 : QArr L (Lt L.heap.size) A0 c0 Q0 ∧ n0 = Q0.length ∧ lenQ Q0 ≤ 400) (h1 : QArr L (Lt L.heap.size) A1 c1 Q1 ∧ n1 = Q1.length ∧ lenQ Q1 ≤ 400) (h2 : QArr L (Lt L.heap.size) A2 c2 Q2 ∧ n2 = Q2.length ∧ lenQ Q2 ≤ 400)
    (h3 : QArr L (Lt L.heap.size) A3 c3 Q3 ∧ n3 = Q3.length ∧ lenQ Q3 ≤ 400) (h4 : QArr L (Lt L.heap.size) A4 c4 Q4 ∧ n4 = Q4.length ∧ lenQ Q4 ≤ 400) (h5 : QArr L (Lt L.heap.size) A5 c5 Q5 ∧ n5 = Q5.length ∧ lenQ Q5 ≤ 400) :
    (∀ j, j < 6 → BAt (L.alloc (.cells #[.slice A0 n0 c0, .slice A1 n1 c1, .slice A2 n2 c2, .slice A3 n3 c3, .slice A4 n4 c4, .slice A5 n5 c5] 26)) L.heap.size j) ∧
      L.heap.size < (L.alloc (.cells #[.slice A0 n0 c0, .slice A1 n1 c1, .slice A2 n2 c2, .slice A3 n3 c3, .slice A4 n4 c4, .slice A5 n5 c5] 26)).heap.size ∧
      Below X.heap.size X (L.alloc (.cells #[.slice A0 n0 c0, .slice A1 n1 c1, .slice A2 n2 c2, .slice A3 n3 c3, .slice A4 n4 c4, .slice A5 n5 c5] 26)) := by
  obtain ⟨W, hW⟩ : ∃ W, W = L.alloc (.cells #[.slice A0 n0 c0, .slice A1 n1 c1, .slice A2 n2 c2, .slice A3 n3 c3, .slice A4 n4 c4, .slice A5 n5 c5] 26) := ⟨_, rfl⟩
  have hbw : Below L.heap.size L W := by rw [hW]; exact (Below.refl _ _).alloc (Nat.le_refl _) _
  have hq : Blk W L.heap.size 26 #[.slice A0 n0 c0, .slice A1 n1 c1, .slice A2 n2 c2, .slice A3 n3 c3, .slice A4 n4 c4, .slice A5 n5 c5] := by rw [hW]; exact Blk.new _ _ _
  rw [← hW]
  refine ⟨fun j hj => ?_, hq.lt, below_next hc (Nat.le_refl _) hbw⟩
  rcases (by omega : j = 0 ∨ j = 1 ∨ j = 2 ∨ j = 3 ∨ j = 4 ∨ j = 5) with e | e | e | e | e | e <;> subst e
  · exact ⟨_, _, _, _, hq.cell 0, h0.2.1, h0.1.next hbw, h0.2.2⟩
  · exact ⟨_, _, _, _, hq.cell 1, h1.2.1, h1.1.next hbw, h1.2.2⟩
  · exact ⟨_, _, _, _, hq.cell 2, h2.2.1, h2.1.next hbw, h2.2.2⟩
  · exact ⟨_, _, _, _, hq.cell 3, h3.2.1, h3.1.next hbw, h3.2.2⟩
  · exact ⟨_, _, _, _, hq.cell 4, h4.2.1, h4.1.next hbw, h4.2.2⟩
  · exact ⟨_, _, _, _, hq.cell 5, h5.2.1, h5.1.next hbw, h5.2.2⟩
/-- The j-th space of a row of spaces in block Q. -/
def SAt (W : World) (Q j : Nat) : Prop := ∃ (s : Int) (A : Option Addr) (nw c : Nat) (A' : Option Addr) (n c' : Nat), W.cell? ⟨Q, j * 3, none⟩ = some (.int .i64 s) ∧ W.cell? ⟨Q, j * 3 + 1, none⟩ = some (.slice A nw c) ∧ W.cell? ⟨Q, j * 3 + 2, none⟩ = some (.slice A' n c') ∧ ∃ wd F, Arr W W.heap.size A nw c wd ∧ Tab W W.heap.size A' n c' F
theorem sat3 {X L : World} {s0 s1 s2 : Int} {A0 A0' A1 A1' A2 A2' : Option Addr} {n0 c0 m0 d0 n1 c1 m1 d1 n2 c2 m2 d2 : Nat} (hc : Below X.heap.size X L)
    (v0 : ∃ wd F, Arr L L.heap.size A0 n0 c0 wd ∧ Tab L L.heap.size A0' m0 d0 F) (v1 : ∃ wd F, Arr L L.heap.size A1 n1 c1 wd ∧ Tab L L.heap.size A1' m1 d1 F) (v2 : ∃ wd F, Arr L L.heap.size A2 n2 c2 wd ∧ Tab L L.heap.size A2' m2 d2 F) :
    (∀ j, j < 3 → SAt (L.alloc (.cells #[.int .i64 s0, .slice A0 n0 c0, .slice A0' m0 d0, .int .i64 s1, .slice A1 n1 c1, .slice A1' m1 d1, .int .i64 s2, .slice A2 n2 c2, .slice A2' m2 d2] 25)) L.heap.size j) ∧
      L.heap.size < (L.alloc (.cells #[.int .i64 s0, .slice A0 n0 c0, .slice A0' m0 d0, .int .i64 s1, .slice A1 n1 c1, .slice A1' m1 d1, .int .i64 s2, .slice A2 n2 c2, .slice A2' m2 d2] 25)).heap.size ∧
      Below X.heap.size X (L.alloc (.cells #[.int .i64 s0, .slice A0 n0 c0, .slice A0' m0 d0, .int .i64 s1, .slice A1 n1 c1, .slice A1' m1 d1, .int .i64 s2, .slice A2 n2 c2, .slice A2' m2 d2] 25)) := by
  obtain ⟨W, hW⟩ : ∃ W, W = L.alloc (.cells #[.int .i64 s0, .slice A0 n0 c0, .slice A0' m0 d0, .int .i64 s1, .slice A1 n1 c1, .slice A1' m1 d1, .int .i64 s2, .slice A2 n2 c2, .slice A2' m2 d2] 25) := ⟨_, rfl⟩
  have hbw : Below L.heap.size L W := by rw [hW]; exact (Below.refl _ _).alloc (Nat.le_refl _) _
  have hq : Blk W L.heap.size 25 #[.int .i64 s0, .slice A0 n0 c0, .slice A0' m0 d0, .int .i64 s1, .slice A1 n1 c1, .slice A1' m1 d1, .int .i64 s2, .slice A2 n2 c2, .slice A2' m2 d2] := by rw [hW]; exact Blk.new _ _ _
  rw [← hW]
  refine ⟨fun j hj => ?_, hq.lt, below_next hc (Nat.le_refl _) hbw⟩
  rcases (by omega : j = 0 ∨ j = 1 ∨ j = 2) with e | e | e <;> subst e
  · obtain ⟨wd, F, a1, a2⟩ := v0
    exact ⟨_, _, _, _, _, _, _, hq.cell 0, hq.cell 1, hq.cell 2, wd, F, a1.next hbw, a2.next hbw⟩
  · obtain ⟨wd, F, a1, a2⟩ := v1
    exact ⟨_, _, _, _, _, _, _, hq.cell 3, hq.cell 4, hq.cell 5, wd, F, a1.next hbw, a2.next hbw⟩
  · obtain ⟨wd, F, a1, a2⟩ := v2
    exact ⟨_, _, _, _, _, _, _, hq.cell 6, hq.cell 7, hq.cell 8, wd, F, a1.next hbw, a2.next hbw⟩
end Go.Proofs.Ytkknmphigpcjjaa
