/-
  What a space and a list of numbers that came in give.
-/
import Derived.Test.YtpbcpobbjoopnaaMakes
import Derived.Lib.SmallJoins
import Derived.ChangeSlices
import Derived.Deep.Slices
import Derived.Deep.Fields
namespace Go.Proofs.Ytpbcpobbjoopnaa
open Go.ChangeShapes Go.WideShapes Go.ChangeAt Go.RowKit Go.Deep Go.Joins
set_option maxRecDepth 100000
set_option linter.unusedVariables false

section
variable {H : Type} {enc : TypeId × Value → H} {W : World} {r : Reach} {b0 base : Nat} {held : Bool}

theorem rows_in {x : Addr} {len cap : Nat} {zs : List Int} (hl : len ≤ cap) (hm : cap ≤ maxLen) (hz : zs.length = cap) (hc : ∀ i, i < zs.length → W.cell? (x.add i) = some (.int .u64 (zs.getD i 0))) :
    Arr W W.heap.size (some x) len cap (fun j => zs.getD j 0) := by
  refine ⟨hl, hm, (fun e => by cases e), fun hn => ?_⟩
  obtain ⟨b, o, s⟩ := x
  have h0 := hc 0 (by omega)
  have hs : s = none := by simpa [Addr.add] using World.cell?_spot h0
  subst hs
  rw [add_at] at h0
  refine ⟨b, o, rfl, cell_lt h0, fun j hj => ?_⟩
  have h1 := hc j (by omega)
  rw [add_at] at h1
  exact h1

theorem list_in {x : Addr} {len cap : Nat} {zs : List Int} (hl : len ≤ cap) (hm : cap ≤ maxLen) (hz : zs.length = cap) (hc : ∀ i, i < zs.length → W.cell? (x.add i) = some (.int .i64 (zs.getD i 0))) (hw : ∀ n ∈ zs, (Lit.int .i64 n).wf = true) :
    ListP W W.heap.size (some x) len cap := by
  refine ⟨hl, hm, fun j hj => ?_⟩
  obtain ⟨b, o, s⟩ := x
  have h00 := hc 0 (by omega)
  have hs : s = none := by simpa [Addr.add] using World.cell?_spot h00
  subst hs
  have h0 := hc j (by omega)
  rw [add_at] at h0
  refine ⟨b, o, _, rfl, cell_lt h0, h0, ?_⟩
  refine bounds_i64 (hw _ ?_)
  have hjl : j < zs.length := by omega
  have hg : zs.getD j 0 = zs[j] := by simp [List.getD_eq_getElem?_getD, List.getElem?_eq_getElem hjl]
  rw [hg]
  exact List.getElem_mem _

theorem frames_in {x : Addr} {len cap : Nat} (hl : len ≤ cap) (hm : cap ≤ maxLen) (hi : ∀ i, i < len → ∃ a b c : Int, W.cell? (x.add (i * 3)) = some (.int .i64 a) ∧ W.cell? (x.add (i * 3 + 1)) = some (.int .i64 b) ∧ W.cell? (x.add (i * 3 + 2)) = some (.int .i64 c)) :
    ∃ F, Tab W W.heap.size (some x) len cap F := by
  rcases Nat.eq_zero_or_pos len with e | hn
  · subst e
    exact ⟨fun _ => frFree, hl, hm, (fun e => by cases e), fun h => absurd h (by omega)⟩
  · obtain ⟨b, o, s⟩ := x
    obtain ⟨_, _, _, h0, _⟩ := hi 0 hn
    have hs : s = none := by simpa [Addr.add] using World.cell?_spot h0
    subst hs
    rw [add_at] at h0
    have hf : ∀ i, i < len → ∃ f : Fr, W.cell? ⟨b, o + i * 3, none⟩ = some (.int .i64 f.ow) ∧ W.cell? ⟨b, o + i * 3 + 1, none⟩ = some (.int .i64 f.st) ∧ W.cell? ⟨b, o + i * 3 + 2, none⟩ = some (.int .i64 f.nx) := fun i h => by
      obtain ⟨a, b, c, h1, h2, h3⟩ := hi i h
      rw [add_at] at h1 h2 h3
      exact ⟨⟨a, b, c⟩, h1, h2, h3⟩
    refine ⟨fun i => if h : i < len then Classical.choose (hf i h) else frFree, hl, hm, (fun e => by cases e), fun _ => ⟨b, o, rfl, cell_lt h0, fun j hj => ?_⟩⟩
    simp only [dif_pos hj]
    exact Classical.choose_spec (hf j hj)

theorem open_space {v : Value} {d : DataW H} {p : List MemPlace} (hv : Value.okWide Try.prog W r b0 25 v) (h : DataW.Trod enc Try.prog W base (fun _ => true) held 25 v d p) :
    ∃ (s : Int) (A : Option Addr) (nw c : Nat) (A' : Option Addr) (n c' : Nat) (wd : Nat → Int) (F : Nat → Fr), v = .agg #[.int .i64 s, .slice A nw c, .slice A' n c'] ∧ Arr W W.heap.size A nw c wd ∧ Tab W W.heap.size A' n c' F := by
  obtain ⟨v0, v1, v2, y0, y1, y2, n, rfl, _, _, h0, h1, h2⟩ := open_agg3 Try.underlying25 (by kernel_rfl) (by kernel_rfl) hv h
  obtain ⟨s, e0, _, _⟩ := DataW.trod_int Try.underlying3 h0
  injection e0 with e0
  subst e0
  have hw : ∃ A nw c wd, v1 = .slice A nw c ∧ Arr W W.heap.size A nw c wd := by
    rcases open_ints Try.underlying22 Try.underlying67 (by kernel_rfl) h1 with ⟨hcs, _⟩ | ⟨x, l, c, zs, hcs, _, hl, hm, hz, _, hcell, _⟩
    · injection hcs with hcs
      exact ⟨none, 0, 0, fun _ => 0, hcs, Arr.nil _ _ _⟩
    · injection hcs with hcs
      exact ⟨some x, l, c, _, hcs, rows_in hl hm (by simpa using hz) hcell⟩
  have ht : ∃ A n c F, v2 = .slice A n c ∧ Tab W W.heap.size A n c F := by
    rcases open_slice Try.underlying23 h2 with ⟨hcs, _⟩ | ⟨x, l, c, m, n', D, Pl, hcs, _, hl, hm, hmm, _, hi⟩
    · injection hcs with hcs
      exact ⟨none, 0, 0, fun _ => frFree, hcs, Tab.nil _ _ _⟩
    · injection hcs with hcs
      have hC : Try.prog.cellsOf 64 = 3 := by kernel_rfl
      rw [hC] at hi
      simp only [if_true] at hmm
      obtain ⟨F, hF⟩ := frames_in (W := W) (x := x) hl hm (fun i h => by
        obtain ⟨cs, hc, ht⟩ := hi i (by omega)
        obtain ⟨ys, n2, _, _, hlen, hyl, hf⟩ := DataW.trod_struct Try.underlying64 ht
        obtain ⟨_, hcl, hat⟩ := World.cells?_some hc
        match cs, hlen.trans hC with
        | [u0, u1, u2], _ =>
          have k0 := hat 0 (by omega)
          have k1 := hat 1 (by omega)
          have k2 := hat 2 (by omega)
          obtain ⟨z0, hz0⟩ : ∃ z, ys[0]? = some z := ⟨_, List.getElem?_eq_getElem (by rw [hyl]; decide)⟩
          obtain ⟨z1, hz1⟩ : ∃ z, ys[1]? = some z := ⟨_, List.getElem?_eq_getElem (by rw [hyl]; decide)⟩
          obtain ⟨z2, hz2⟩ : ∃ z, ys[2]? = some z := ⟨_, List.getElem?_eq_getElem (by rw [hyl]; decide)⟩
          have g0 := (hf 0 _ rfl).trans hz0
          have g1 := (hf 1 _ rfl).trans hz1
          have g2 := (hf 2 _ rfl).trans hz2
          obtain ⟨a, ea, _, _⟩ := DataW.trod_int Try.underlying3 g0
          obtain ⟨b, eb, _, _⟩ := DataW.trod_int Try.underlying3 g1
          obtain ⟨c, ec, _, _⟩ := DataW.trod_int Try.underlying3 g2
          have hI : Try.prog.cellsOf 3 = 1 := by kernel_rfl
          change List.take (Try.prog.cellsOf 3) (List.drop 0 [u0, u1, u2]) = _ at ea
          change List.take (Try.prog.cellsOf 3) (List.drop 1 [u0, u1, u2]) = _ at eb
          change List.take (Try.prog.cellsOf 3) (List.drop 2 [u0, u1, u2]) = _ at ec
          rw [hI] at ea eb ec
          simp at ea eb ec
          subst ea
          subst eb
          subst ec
          rw [Go.Deep.add_add] at k0 k1 k2
          exact ⟨a, b, c, k0, k1, k2⟩)
      exact ⟨some x, l, c, F, hcs, hF⟩
  obtain ⟨A, nw, c, wd, rfl, hA⟩ := hw
  obtain ⟨A', n, c', F, rfl, hT⟩ := ht
  exact ⟨s, A, nw, c, A', n, c', wd, F, rfl, hA, hT⟩

theorem open_list {v : Value} {d : DataW H} {p : List MemPlace} (hv : Value.okWide Try.prog W r b0 26 v) (h : DataW.Trod enc Try.prog W base (fun _ => true) held 26 v d p) :
    ∃ (A : Option Addr) (n c : Nat), v = .slice A n c ∧ ListP W W.heap.size A n c := by
  obtain ⟨A, n, c, rfl⟩ := okWide_slice Try.underlying26 hv
  refine ⟨A, n, c, rfl, ?_⟩
  obtain ⟨fuel, hf⟩ := h
  rcases open_ints Try.underlying26 Try.underlying3 (by kernel_rfl) hf with ⟨hcs, _⟩ | ⟨x, l, c2, zs, hcs, _, hl, hm, hz, _, hcell, hw⟩
  · simp [Value.cells] at hcs
    obtain ⟨rfl, rfl, rfl⟩ := hcs
    exact ⟨Nat.le_refl _, by simp, fun j hj => absurd hj (by omega)⟩
  · simp [Value.cells] at hcs
    obtain ⟨rfl, rfl, rfl⟩ := hcs
    exact list_in hl hm (by simpa using hz) hcell hw
end
end Go.Proofs.Ytpbcpobbjoopnaa
