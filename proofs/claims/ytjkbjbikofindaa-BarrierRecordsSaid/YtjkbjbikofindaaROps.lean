/-
  What remembered sets that came in give, each of a length that the reach permits.
-/
import Derived.Test.YtjkbjbikofindaaROpn
import Derived.SizedLaws
namespace Go.Proofs.Ytjkbjbikofindaa
open Go.ChangeShapes Go.WideShapes Go.ChangeAt Go.RowKit Go.Deep Go.Joins
set_option maxRecDepth 100000
set_option linter.unusedVariables false

theorem weights_all {H : Type} {P : Program} {e : TypeId} : ∀ {l : List (DataW H)} {d : DataW H}, d ∈ l → ∀ n ∈ d.weights P e, n ∈ DataW.weightsAll P e l
  | d0 :: l, d, h, n, hn => by
    simp only [DataW.weightsAll, List.mem_append]
    rcases List.mem_cons.1 h with rfl | h
    · exact Or.inl hn
    · exact Or.inr (weights_all h n hn)

section
variable {H : Type} {enc : TypeId × Value → H} {W : World} {r : Reach} {b0 base : Nat} {held : Bool}

theorem open_slots {fuel : Nat} {cs : List Value} {y : DataW H × List MemPlace} (h : DataW.trod enc Try.prog W base (fun _ => true) held fuel 27 cs = some y) (hw : ∀ n ∈ y.1.weights Try.prog 27, n ≤ reachBytes) :
    ∃ (A : Option Addr) (c : Nat) (S : List Int), cs = [.slice A S.length c] ∧ SArr W (Lt W.heap.size) A c S ∧ S.length ≤ 140737488355328 := by
  rcases open_ints Try.underlying27 Try.underlying3 (by kernel_rfl) h with ⟨hcs, _⟩ | ⟨x, l, c2, zs, hcs, _, hl, hm, hz, hy, hcell, hwf⟩
  · exact ⟨none, 0, [], hcs, SArr.nil _ _, by simp⟩
  · have hz' : zs.length = c2 := by simpa using hz
    obtain ⟨S, h1, h2⟩ := sarr_list (list_in hl hm hz' hcell hwf)
    subst h1
    refine ⟨some x, c2, S, hcs, h2, ?_⟩
    have h1 := hw (((lits .i64 (zs.take S.length)).length + (lits .i64 (zs.drop S.length)).length) * Try.prog.bytesOf 3) (by rw [hy]; simp [DataW.weights, Try.underlying27]; exact Or.inl rfl)
    have hB : Try.prog.bytesOf 3 = 8 := by kernel_rfl
    rw [hB] at h1
    simp only [lits, List.length_map, List.length_take, List.length_drop] at h1
    have h2 := reachBytes_lt
    omega

theorem sets_in {P : Nat → Prop} {x : Addr} {len cap : Nat} (hp : ∀ b, b < W.heap.size → P b) (hl : len ≤ cap) (hm : cap ≤ maxLen) (hi : ∀ i, i < len → ∃ (f t : Int) (S : List Int) (A : Option Addr) (c : Nat), W.cell? (x.add (i * 3)) = some (.int .i64 f) ∧ W.cell? (x.add (i * 3 + 1)) = some (.int .i64 t) ∧ W.cell? (x.add (i * 3 + 2)) = some (.slice A S.length c) ∧ SArr W P A c S ∧ S.length ≤ 140737488355328) :
    ∃ L : List SetR, L.length = len ∧ TArr W P (some x) cap L ∧ ∀ y ∈ L, y.sl.length ≤ 140737488355328 := by
  have hi2 : ∀ i, i < len → ∃ (y : SetR), ∃ (A : Option Addr) (c : Nat), W.cell? (x.add (i * 3)) = some (.int .i64 y.fr) ∧ W.cell? (x.add (i * 3 + 1)) = some (.int .i64 y.tg) ∧ W.cell? (x.add (i * 3 + 2)) = some (.slice A y.sl.length c) ∧ SArr W P A c y.sl ∧ y.sl.length ≤ 140737488355328 := fun i h => by
    obtain ⟨f, t, S, A, c, h1⟩ := hi i h
    exact ⟨⟨f, t, S⟩, A, c, h1⟩
  obtain ⟨g, hg⟩ : ∃ g : Nat → SetR, g = fun i => if h : i < len then Classical.choose (hi2 i h) else ⟨0, 0, []⟩ := ⟨_, rfl⟩
  have hs : ∀ i, i < len → ∃ (A : Option Addr) (c : Nat), W.cell? (x.add (i * 3)) = some (.int .i64 (g i).fr) ∧ W.cell? (x.add (i * 3 + 1)) = some (.int .i64 (g i).tg) ∧ W.cell? (x.add (i * 3 + 2)) = some (.slice A (g i).sl.length c) ∧ SArr W P A c (g i).sl ∧ (g i).sl.length ≤ 140737488355328 := fun i h => by
    rw [hg]
    simp only [dif_pos h]
    exact Classical.choose_spec (hi2 i h)
  refine ⟨(List.range len).map g, by simp, ⟨by simpa using hl, hm, (fun e => by cases e), fun hn => ?_⟩, fun q hq => ?_⟩
  · have hn' : 0 < len := by simpa using hn
    obtain ⟨b, o, s⟩ := x
    obtain ⟨_, _, h0, _⟩ := hs 0 hn'
    have hsn : s = none := by simpa [Addr.add] using World.cell?_spot h0
    subst hsn
    rw [add_at] at h0
    refine ⟨b, o, rfl, hp _ (cell_lt h0), fun j q hj => ?_⟩
    have hjl : j < len := by have := get_lt hj; simpa using this
    rw [List.getElem?_map, List.getElem?_range hjl] at hj
    simp only [Option.map_some, Option.some.injEq] at hj
    subst hj
    obtain ⟨A, c, h1, h2, h3, h4, _⟩ := hs j hjl
    rw [add_at] at h1 h2 h3
    exact ⟨h1, h2, A, c, h3, h4⟩
  · obtain ⟨j, hj, rfl⟩ := List.mem_map.1 hq
    obtain ⟨_, _, _, _, _, _, h3⟩ := hs j (List.mem_range.1 hj)
    exact h3

theorem open_sets {v : Value} {d : DataW H} {p : List MemPlace} (hv : Value.okWide Try.prog W r b0 26 v) (h : DataW.Trod enc Try.prog W base (fun _ => true) held 26 v d p)
    (hw : ∀ n ∈ d.weights Try.prog 26, n ≤ reachBytes) :
    ∃ (A : Option Addr) (c : Nat) (L : List SetR), v = .slice A L.length c ∧ TArr W (Lt W.heap.size) A c L ∧ ∀ y ∈ L, y.sl.length ≤ 140737488355328 := by
  obtain ⟨A, n, c, rfl⟩ := okWide_slice Try.underlying26 hv
  obtain ⟨fuel, hf⟩ := h
  rcases open_slice Try.underlying26 hf with ⟨hcs, _⟩ | ⟨x, l, c2, m, n', D, Pl, hcs, _, hl, hm, hmm, hy, hi⟩
  · simp [Value.cells] at hcs
    obtain ⟨rfl, rfl, rfl⟩ := hcs
    exact ⟨none, 0, [], rfl, TArr.nil _ _, fun q hq => absurd hq (by simp)⟩
  · simp [Value.cells] at hcs
    obtain ⟨rfl, rfl, rfl⟩ := hcs
    have hC : Try.prog.cellsOf 57 = 3 := by kernel_rfl
    rw [hC] at hi
    simp only [if_true] at hmm
    have hd : d = .slice ((List.range n).map D) ((List.range (m - n)).map fun j => D (n + j)) := congrArg Prod.fst hy
    obtain ⟨L, hL, hT, hql⟩ := sets_in (W := W) (P := Lt W.heap.size) (x := x) (fun b h => h) hl hm (fun i h => by
      obtain ⟨cs, hc, ht⟩ := hi i (by omega)
      obtain ⟨ys, n2, _, hDy, hlen, hyl, hf⟩ := DataW.trod_struct Try.underlying57 ht
      obtain ⟨_, hcl, hat⟩ := World.cells?_some hc
      match cs, hlen.trans hC with
      | [u0, u1, u2], _ =>
        have k0 := hat 0 (by omega)
        have k1 := hat 1 (by omega)
        have k2 := hat 2 (by omega)
        match ys, hyl with
        | [z0, z1, z2], _ =>
          obtain ⟨a0, e0, _, _⟩ := DataW.trod_int Try.underlying3 (hf 0 _ rfl)
          obtain ⟨a1, e1, _, _⟩ := DataW.trod_int Try.underlying3 (hf 1 _ rfl)
          have hwd : ∀ q ∈ z2.1.weights Try.prog 27, q ≤ reachBytes := fun q hq => hw q (by
            rw [hd]
            simp only [DataW.weights, Try.underlying26]
            refine List.mem_cons_of_mem _ (List.mem_append_left _ (weights_all (List.mem_map.2 ⟨i, List.mem_range.2 h, rfl⟩) q ?_))
            have hDi : D i = .agg ([z0, z1, z2].map (·.1)) := congrArg Prod.fst hDy
            rw [hDi]
            simp only [DataW.weights, Try.underlying57]
            simp only [List.map_cons, List.map_nil, DataW.weightsEach, List.mem_append]
            exact Or.inr (Or.inr (Or.inl hq)))
          obtain ⟨A', c', S, e2, hS, hSl⟩ := open_slots (hf 2 _ rfl) hwd
          have hI : Try.prog.cellsOf 3 = 1 := by kernel_rfl
          have hJ : Try.prog.cellsOf 27 = 1 := by kernel_rfl
          change List.take (Try.prog.cellsOf 3) (List.drop 0 [u0, u1, u2]) = _ at e0
          change List.take (Try.prog.cellsOf 3) (List.drop 1 [u0, u1, u2]) = _ at e1
          change List.take (Try.prog.cellsOf 27) (List.drop 2 [u0, u1, u2]) = _ at e2
          rw [hI] at e0 e1
          rw [hJ] at e2
          simp at e0 e1 e2
          subst e0 e1 e2
          rw [Go.Deep.add_add] at k0 k1 k2
          exact ⟨a0, a1, S, A', c', k0, k1, k2, hS, hSl⟩)
    subst hL
    exact ⟨some x, c, L, rfl, hT, hql⟩
end
end Go.Proofs.Ytjkbjbikofindaa
