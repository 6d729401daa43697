/-
  What belts that came in give: a row of rows of increments, each of a length that the reach permits.
-/
import Derived.Test.YtlafkkekfkamoaaQrow
import Derived.Test.YtlafkkekfkamoaaMWords
import Derived.SizedLaws
import Derived.Lib.SmallJoins
import Derived.ChangeSlices
import Derived.Deep.Slices
import Derived.Deep.Fields
namespace Go.Proofs.Ytlafkkekfkamoaa
open Go.ChangeShapes Go.WideShapes Go.ChangeAt Go.RowKit Go.Deep Go.Joins
set_option maxRecDepth 100000
set_option linter.unusedVariables false

theorem weights_all {H : Type} {P : Program} {e : TypeId} : ∀ {l : List (DataW H)} {d : DataW H}, d ∈ l → ∀ n ∈ d.weights P e, n ∈ DataW.weightsAll P e l
  | d0 :: l, d, h, n, hn => by
    simp only [DataW.weightsAll, List.mem_append]
    rcases List.mem_cons.1 h with rfl | h
    · exact Or.inl hn
    · exact Or.inr (weights_all h n hn)

section
variable {H : Type} {enc : TypeId × Value → H} {W : World} {r : Reach} {b0 base : Nat} {held : Bool}

theorem row_in {P : Nat → Prop} {x : Addr} {len cap : Nat} (hp : ∀ b, b < W.heap.size → P b) (hl : len ≤ cap) (hm : cap ≤ maxLen) (hi : ∀ i, i < len → ∃ y : IncR, W.cell? (x.add (i * 5)) = some (.int .i64 y.sq) ∧ W.cell? (x.add (i * 5 + 1)) = some (.int .i64 y.bt) ∧ W.cell? (x.add (i * 5 + 2)) = some (.int .i64 y.fi) ∧
      W.cell? (x.add (i * 5 + 3)) = some (.int .i64 y.la) ∧ W.cell? (x.add (i * 5 + 4)) = some (.int .i64 y.wo)) : ∃ q : List IncR, q.length = len ∧ LArr W P (some x) cap q := by
  obtain ⟨g, hg⟩ : ∃ g : Nat → IncR, g = fun i => if h : i < len then Classical.choose (hi i h) else ⟨0, 0, 0, 0, 0⟩ := ⟨_, rfl⟩
  have hs : ∀ i, i < len → W.cell? (x.add (i * 5)) = some (.int .i64 (g i).sq) ∧ W.cell? (x.add (i * 5 + 1)) = some (.int .i64 (g i).bt) ∧ W.cell? (x.add (i * 5 + 2)) = some (.int .i64 (g i).fi) ∧
      W.cell? (x.add (i * 5 + 3)) = some (.int .i64 (g i).la) ∧ W.cell? (x.add (i * 5 + 4)) = some (.int .i64 (g i).wo) := fun i h => by
    rw [hg]
    simp only [dif_pos h]
    exact Classical.choose_spec (hi i h)
  refine ⟨(List.range len).map g, by simp, by simpa using hl, hm, (fun e => by cases e), fun hn => ?_⟩
  have hn' : 0 < len := by simpa using hn
  obtain ⟨b, o, s⟩ := x
  have h0 := (hs 0 hn').1
  have hsn : s = none := by simpa [Addr.add] using World.cell?_spot h0
  subst hsn
  rw [add_at] at h0
  refine ⟨b, o, rfl, hp _ (cell_lt h0), fun j i hj => ?_⟩
  have hjl : j < len := by have := get_lt hj; simpa using this
  rw [List.getElem?_map, List.getElem?_range hjl] at hj
  simp only [Option.map_some, Option.some.injEq] at hj
  subst hj
  have := hs j hjl
  simp only [add_at] at this
  exact this

theorem belts_in {P : Nat → Prop} {x : Addr} {len cap : Nat} (hp : ∀ b, b < W.heap.size → P b) (hl : len ≤ cap) (hm : cap ≤ maxLen) (hi : ∀ i, i < len → ∃ (A : Option Addr) (c : Nat) (q : List IncR), W.cell? (x.add i) = some (.slice A q.length c) ∧ LArr W P A c q ∧ q.length ≤ 140737488355328) :
    ∃ Q : List (List IncR), Q.length = len ∧ QArr W P (some x) cap Q ∧ ∀ q ∈ Q, q.length ≤ 140737488355328 := by
  have hi2 : ∀ i, i < len → ∃ (q : List IncR), ∃ (A : Option Addr) (c : Nat), W.cell? (x.add i) = some (.slice A q.length c) ∧ LArr W P A c q ∧ q.length ≤ 140737488355328 := fun i h => by
    obtain ⟨A, c, q, h1⟩ := hi i h
    exact ⟨q, A, c, h1⟩
  obtain ⟨g, hg⟩ : ∃ g : Nat → List IncR, g = fun i => if h : i < len then Classical.choose (hi2 i h) else [] := ⟨_, rfl⟩
  have hs : ∀ i, i < len → ∃ (A : Option Addr) (c : Nat), W.cell? (x.add i) = some (.slice A (g i).length c) ∧ LArr W P A c (g i) ∧ (g i).length ≤ 140737488355328 := fun i h => by
    rw [hg]
    simp only [dif_pos h]
    exact Classical.choose_spec (hi2 i h)
  refine ⟨(List.range len).map g, by simp, ⟨by simpa using hl, hm, (fun e => by cases e), fun hn => ?_⟩, fun q hq => ?_⟩
  · have hn' : 0 < len := by simpa using hn
    obtain ⟨b, o, s⟩ := x
    obtain ⟨_, _, h0, _⟩ := hs 0 hn'
    have hsn : s = none := by simpa [Addr.add] using World.cell?_spot h0
    subst hsn
    rw [add_at] at h0
    refine ⟨b, o, rfl, hp _ (cell_lt h0), fun j q hj => ?_⟩
    have hjl : j < len := by have := get_lt hj; simpa using this
    rw [List.getElem?_map, List.getElem?_range hjl] at hj
    simp only [Option.map_some, Option.some.injEq] at hj
    subst hj
    obtain ⟨A, c, h1, h2, _⟩ := hs j hjl
    rw [add_at] at h1
    exact ⟨A, c, h1, h2⟩
  · obtain ⟨j, hj, rfl⟩ := List.mem_map.1 hq
    obtain ⟨_, _, _, _, h3⟩ := hs j (List.mem_range.1 hj)
    exact h3

theorem open_belt {fuel : Nat} {cs : List Value} {y : DataW H × List MemPlace} (h : DataW.trod enc Try.prog W base (fun _ => true) held fuel 25 cs = some y) (hw : ∀ n ∈ y.1.weights Try.prog 25, n ≤ reachBytes) :
    ∃ (A : Option Addr) (c : Nat) (q : List IncR), cs = [.slice A q.length c] ∧ LArr W (Lt W.heap.size) A c q ∧ q.length ≤ 140737488355328 := by
  rcases open_slice Try.underlying25 h with ⟨hcs, _⟩ | ⟨x, l, c, m, n', D, Pl, hcs, _, hl, hm, hmm, hy, hi⟩
  · exact ⟨none, 0, [], hcs, LArr.nil _ _, by simp⟩
  · have hC : Try.prog.cellsOf 24 = 5 := by kernel_rfl
    have hB : Try.prog.bytesOf 24 = 40 := by kernel_rfl
    have hln : l ≤ 140737488355328 := by
      have h1 := hw ((((List.range l).map D).length + ((List.range (m - l)).map fun j => D (l + j)).length) * Try.prog.bytesOf 24) (by rw [hy]; simp [DataW.weights, Try.underlying25])
      rw [hB] at h1
      simp only [List.length_map, List.length_range] at h1
      have h2 := reachBytes_lt
      omega
    rw [hC] at hi
    simp only [if_true] at hmm
    obtain ⟨q, hq, hL⟩ := row_in (W := W) (P := Lt W.heap.size) (x := x) (fun b h => h) hl hm (fun i h => by
      obtain ⟨cs, hc, ht⟩ := hi i (by omega)
      obtain ⟨ys, n2, _, _, hlen, hyl, hf⟩ := DataW.trod_struct Try.underlying24 ht
      obtain ⟨_, hcl, hat⟩ := World.cells?_some hc
      match cs, hlen.trans hC with
      | [u0, u1, u2, u3, u4], _ =>
        have k0 := hat 0 (by omega)
        have k1 := hat 1 (by omega)
        have k2 := hat 2 (by omega)
        have k3 := hat 3 (by omega)
        have k4 := hat 4 (by omega)
        obtain ⟨z0, hz0⟩ : ∃ z, ys[0]? = some z := ⟨_, List.getElem?_eq_getElem (by rw [hyl]; decide)⟩
        obtain ⟨z1, hz1⟩ : ∃ z, ys[1]? = some z := ⟨_, List.getElem?_eq_getElem (by rw [hyl]; decide)⟩
        obtain ⟨z2, hz2⟩ : ∃ z, ys[2]? = some z := ⟨_, List.getElem?_eq_getElem (by rw [hyl]; decide)⟩
        obtain ⟨z3, hz3⟩ : ∃ z, ys[3]? = some z := ⟨_, List.getElem?_eq_getElem (by rw [hyl]; decide)⟩
        obtain ⟨z4, hz4⟩ : ∃ z, ys[4]? = some z := ⟨_, List.getElem?_eq_getElem (by rw [hyl]; decide)⟩
        obtain ⟨a0, e0, _, _⟩ := DataW.trod_int Try.underlying3 ((hf 0 _ rfl).trans hz0)
        obtain ⟨a1, e1, _, _⟩ := DataW.trod_int Try.underlying3 ((hf 1 _ rfl).trans hz1)
        obtain ⟨a2, e2, _, _⟩ := DataW.trod_int Try.underlying3 ((hf 2 _ rfl).trans hz2)
        obtain ⟨a3, e3, _, _⟩ := DataW.trod_int Try.underlying3 ((hf 3 _ rfl).trans hz3)
        obtain ⟨a4, e4, _, _⟩ := DataW.trod_int Try.underlying3 ((hf 4 _ rfl).trans hz4)
        have hI : Try.prog.cellsOf 3 = 1 := by kernel_rfl
        change List.take (Try.prog.cellsOf 3) (List.drop 0 [u0, u1, u2, u3, u4]) = _ at e0
        change List.take (Try.prog.cellsOf 3) (List.drop 1 [u0, u1, u2, u3, u4]) = _ at e1
        change List.take (Try.prog.cellsOf 3) (List.drop 2 [u0, u1, u2, u3, u4]) = _ at e2
        change List.take (Try.prog.cellsOf 3) (List.drop 3 [u0, u1, u2, u3, u4]) = _ at e3
        change List.take (Try.prog.cellsOf 3) (List.drop 4 [u0, u1, u2, u3, u4]) = _ at e4
        rw [hI] at e0 e1 e2 e3 e4
        simp at e0 e1 e2 e3 e4
        subst e0 e1 e2 e3 e4
        rw [Go.Deep.add_add] at k0 k1 k2 k3 k4
        exact ⟨⟨a0, a1, a2, a3, a4⟩, k0, k1, k2, k3, k4⟩)
    subst hq
    exact ⟨some x, c, q, hcs, hL, hln⟩

theorem open_belts {v : Value} {d : DataW H} {p : List MemPlace} (hv : Value.okWide Try.prog W r b0 26 v) (h : DataW.Trod enc Try.prog W base (fun _ => true) held 26 v d p)
    (hw : ∀ n ∈ d.weights Try.prog 26, n ≤ reachBytes) :
    ∃ (A : Option Addr) (c : Nat) (Q : List (List IncR)), v = .slice A Q.length c ∧ QArr W (Lt W.heap.size) A c Q ∧ ∀ q ∈ Q, q.length ≤ 140737488355328 := by
  obtain ⟨A, n, c, rfl⟩ := okWide_slice Try.underlying26 hv
  obtain ⟨fuel, hf⟩ := h
  rcases open_slice Try.underlying26 hf with ⟨hcs, _⟩ | ⟨x, l, c2, m, n', D, Pl, hcs, _, hl, hm, hmm, hy, hi⟩
  · simp [Value.cells] at hcs
    obtain ⟨rfl, rfl, rfl⟩ := hcs
    exact ⟨none, 0, [], rfl, QArr.nil _ _, fun q hq => absurd hq (by simp)⟩
  · simp [Value.cells] at hcs
    obtain ⟨rfl, rfl, rfl⟩ := hcs
    have hC : Try.prog.cellsOf 25 = 1 := by kernel_rfl
    rw [hC] at hi
    simp only [if_true] at hmm
    have hd : d = .slice ((List.range n).map D) ((List.range (m - n)).map fun j => D (n + j)) := congrArg Prod.fst hy
    obtain ⟨Q, hQ, hq, hql⟩ := belts_in (W := W) (P := Lt W.heap.size) (x := x) (fun b h => h) hl hm (fun i h => by
      obtain ⟨cs, hc, ht⟩ := hi i (by omega)
      obtain ⟨A', c', q, rfl, hL, hb⟩ := open_belt ht (fun n' hn' => hw n' (by
        rw [hd]
        simp only [DataW.weights, Try.underlying26]
        exact List.mem_cons_of_mem _ (List.mem_append_left _ (weights_all (List.mem_map.2 ⟨i, List.mem_range.2 h, rfl⟩) n' hn'))))
      refine ⟨A', c', q, ?_, hL, hb⟩
      have := cell_of_cells?_one hc
      rwa [Nat.mul_one] at this)
    subst hQ
    exact ⟨some x, c, Q, rfl, hq, hql⟩
end
end Go.Proofs.Ytlafkkekfkamoaa
