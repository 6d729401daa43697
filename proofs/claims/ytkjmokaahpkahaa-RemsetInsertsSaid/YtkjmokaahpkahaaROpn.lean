/-
  What a list of numbers that came in gives.
-/
import Derived.Test.YtkjmokaahpkahaaRSlo
import Derived.Test.YtkjmokaahpkahaaRDf
import Derived.Lib.SmallJoins
import Derived.ChangeSlices
import Derived.ChangeMaps5
import Derived.Deep.Slices
import Derived.Deep.Fields
import Derived.Laws.Cover2
namespace Go.Proofs.Ytkjmokaahpkahaa
open Go.ChangeShapes Go.WideShapes Go.ChangeAt Go.RowKit Go.Deep Go.Joins
set_option maxRecDepth 100000
set_option linter.unusedVariables false

section
variable {H : Type} {enc : TypeId × Value → H} {W : World} {r : Reach} {b0 base : Nat} {held : Bool}

theorem list_in {x : Addr} {len cap : Nat} {zs : List Int} (hl : len ≤ cap) (hm : cap ≤ maxLen) (hz : zs.length = cap) (hc : ∀ i, i < zs.length → W.cell? (x.add i) = some (.int .i64 (zs.getD i 0))) (hw : ∀ n ∈ zs, (Lit.int .i64 n).wf = true) :
    ListP W W.heap.size (some x) len cap := by
  refine ⟨hl, hm, fun j hj => ?_⟩
  obtain ⟨b, o, s⟩ := x
  have h00 := hc 0 (by omega)
  have hs : s = none := by simpa [Addr.add] using World.cell?_spot h00
  subst hs
  have h0 := hc j (by omega)
  rw [add_at] at h0
  refine ⟨b, o, _, rfl, cell_lt h0, h0, ?_⟩
  refine bounds_i64 (hw _ ?_)
  have hjl : j < zs.length := by omega
  have hg : zs.getD j 0 = zs[j] := by simp [List.getD_eq_getElem?_getD, List.getElem?_eq_getElem hjl]
  rw [hg]
  exact List.getElem_mem _
theorem open_list {v : Value} {d : DataW H} {p : List MemPlace} (hv : Value.okWide Try.prog W r b0 23 v) (h : DataW.Trod enc Try.prog W base (fun _ => true) held 23 v d p) :
    ∃ (A : Option Addr) (n c : Nat), v = .slice A n c ∧ ListP W W.heap.size A n c := by
  obtain ⟨A, n, c, rfl⟩ := okWide_slice Try.underlying23 hv
  refine ⟨A, n, c, rfl, ?_⟩
  obtain ⟨fuel, hf⟩ := h
  rcases open_ints Try.underlying23 Try.underlying3 (by kernel_rfl) hf with ⟨hcs, _⟩ | ⟨x, l, c2, zs, hcs, _, hl, hm, hz, _, hcell, hw⟩
  · simp [Value.cells] at hcs
    obtain ⟨rfl, rfl, rfl⟩ := hcs
    exact ⟨Nat.le_refl _, by simp, fun j hj => absurd hj (by omega)⟩
  · simp [Value.cells] at hcs
    obtain ⟨rfl, rfl, rfl⟩ := hcs
    exact list_in hl hm (by simpa using hz) hcell hw
theorem in_of {A : Option Addr} {c : Nat} {S : List Int} (h : ListP W W.heap.size A S.length c) (hS : SArr W (Lt W.heap.size) A c S) : ∀ x ∈ S, in64 x := by
  intro x hx
  obtain ⟨j, hj⟩ := List.mem_iff_getElem?.1 hx
  obtain ⟨b, o, v, e, _, hc, h1, h2⟩ := h.2.2 j (get_lt hj)
  obtain ⟨b', o', e', _, _, hc'⟩ := hS.at_ hj
  rw [e] at e'
  injection e' with e'
  injection e' with e1 e2
  subst e1 e2
  rw [hc] at hc'
  injection hc' with hc'
  injection hc' with _ hc'
  subst hc'
  exact ⟨h1, h2⟩
theorem open_nums {v : Value} {d : DataW H} {p : List MemPlace} (hv : Value.okWide Try.prog W r b0 23 v) (h : DataW.Trod enc Try.prog W base (fun _ => true) held 23 v d p) :
    ∃ (A : Option Addr) (c : Nat) (S : List Int), v = .slice A S.length c ∧ ListP W W.heap.size A S.length c ∧ SArr W (Lt W.heap.size) A c S ∧ ∀ x ∈ S, in64 x := by
  obtain ⟨A, n, c, rfl, hl⟩ := open_list hv h
  rcases A with _ | x
  · obtain ⟨fuel, hf⟩ := h
    rcases open_ints Try.underlying23 Try.underlying3 (by kernel_rfl) hf with ⟨hcs, _⟩ | ⟨x, l, c2, zs, hcs, _⟩
    · simp [Value.cells] at hcs
      obtain ⟨rfl, rfl⟩ := hcs
      exact ⟨none, 0, [], rfl, hl, SArr.nil _ _, by simp⟩
    · simp [Value.cells] at hcs
  · obtain ⟨S, h1, h2⟩ := sarr_list hl
    subst h1
    exact ⟨some x, c, S, rfl, hl, h2, in_of hl h2⟩
end
end Go.Proofs.Ytkjmokaahpkahaa
