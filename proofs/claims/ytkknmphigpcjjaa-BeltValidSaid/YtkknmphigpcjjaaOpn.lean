/-
  What a space that came in gives, with its words of 64 bits; the bounds of a number of 64 bits without a sign. (Made by mkopn-s8.py.)
-/
import Derived.Test.YtkknmphigpcjjaaMR8
import Derived.Test.YtkknmphigpcjjaaMWords
namespace Go.Proofs.Ytkknmphigpcjjaa
open Go.ChangeShapes Go.WideShapes Go.ChangeAt Go.RowKit Go.Deep Go.Joins
set_option maxRecDepth 100000
set_option linter.unusedVariables false

theorem wf_u64 {a : Int} (h : (Lit.int .u64 a).wf = true) : 0 ≤ a ∧ a < 18446744073709551616 := by
  have hmin : IntKind.u64.min = 0 := rfl
  have hmax : IntKind.u64.max = 18446744073709551615 := rfl
  simp only [Lit.wf, Bool.and_eq_true, decide_eq_true_eq, hmin, hmax] at h
  omega

section
variable {H : Type} {enc : TypeId × Value → H} {W : World} {r : Reach} {b0 base : Nat} {held : Bool}

theorem open_space8 {v : Value} {d : DataW H} {p : List MemPlace} (hv : Value.okWide Try.prog W r b0 25 v) (h : DataW.Trod enc Try.prog W base (fun _ => true) held 25 v d p) :
    ∃ (s : Int) (A : Option Addr) (nw c : Nat) (A' : Option Addr) (n c' : Nat) (wd : Nat → Int) (F : Nat → Fr), v = .agg #[.int .i64 s, .slice A nw c, .slice A' n c'] ∧ Arr W W.heap.size A nw c wd ∧ Tab W W.heap.size A' n c' F ∧ U64w nw wd := by
  obtain ⟨v0, v1, v2, y0, y1, y2, n, rfl, _, _, h0, h1, h2⟩ := open_agg3 Try.underlying25 (by kernel_rfl) (by kernel_rfl) hv h
  obtain ⟨s, e0, _, _⟩ := DataW.trod_int Try.underlying3 h0
  injection e0 with e0
  subst e0
  have hw : ∃ A nw c wd, v1 = .slice A nw c ∧ Arr W W.heap.size A nw c wd ∧ U64w nw wd := by
    rcases open_ints Try.underlying22 Try.underlying70 (by kernel_rfl) h1 with ⟨hcs, _⟩ | ⟨x, l, c, zs, hcs, _, hl, hm, hz, _, hcell, hwf⟩
    · injection hcs with hcs
      exact ⟨none, 0, 0, fun _ => 0, hcs, Arr.nil _ _ _, fun j hj => absurd hj (by omega)⟩
    · injection hcs with hcs
      exact ⟨some x, l, c, _, hcs, rows_in hl hm (by simpa using hz) hcell, fun j hj => by
        have hz2 : zs.length = c := by simpa using hz
        have hjl : j < zs.length := by omega
        have hg : zs.getD j 0 = zs[j] := by simp [List.getD_eq_getElem?_getD, List.getElem?_eq_getElem hjl]
        rw [hg]
        exact wf_u64 (hwf _ (List.getElem_mem _))⟩
  have ht : ∃ A n c F, v2 = .slice A n c ∧ Tab W W.heap.size A n c F := by
    rcases open_slice Try.underlying23 h2 with ⟨hcs, _⟩ | ⟨x, l, c, m, n', D, Pl, hcs, _, hl, hm, hmm, _, hi⟩
    · injection hcs with hcs
      exact ⟨none, 0, 0, fun _ => frFree, hcs, Tab.nil _ _ _⟩
    · injection hcs with hcs
      have hC : Try.prog.cellsOf 69 = 3 := by kernel_rfl
      rw [hC] at hi
      simp only [if_true] at hmm
      obtain ⟨F, hF⟩ := frames_in (W := W) (x := x) hl hm (fun i h => by
        obtain ⟨cs, hc, ht⟩ := hi i (by omega)
        obtain ⟨ys, n2, _, _, hlen, hyl, hf⟩ := DataW.trod_struct Try.underlying69 ht
        obtain ⟨_, hcl, hat⟩ := World.cells?_some hc
        match cs, hlen.trans hC with
        | [u0, u1, u2], _ =>
          have k0 := hat 0 (by omega)
          have k1 := hat 1 (by omega)
          have k2 := hat 2 (by omega)
          obtain ⟨z0, hz0⟩ : ∃ z, ys[0]? = some z := ⟨_, List.getElem?_eq_getElem (by rw [hyl]; decide)⟩
          obtain ⟨z1, hz1⟩ : ∃ z, ys[1]? = some z := ⟨_, List.getElem?_eq_getElem (by rw [hyl]; decide)⟩
          obtain ⟨z2, hz2⟩ : ∃ z, ys[2]? = some z := ⟨_, List.getElem?_eq_getElem (by rw [hyl]; decide)⟩
          have g0 := (hf 0 _ rfl).trans hz0
          have g1 := (hf 1 _ rfl).trans hz1
          have g2 := (hf 2 _ rfl).trans hz2
          obtain ⟨a, ea, _, _⟩ := DataW.trod_int Try.underlying3 g0
          obtain ⟨b, eb, _, _⟩ := DataW.trod_int Try.underlying3 g1
          obtain ⟨c, ec, _, _⟩ := DataW.trod_int Try.underlying3 g2
          have hI : Try.prog.cellsOf 3 = 1 := by kernel_rfl
          change List.take (Try.prog.cellsOf 3) (List.drop 0 [u0, u1, u2]) = _ at ea
          change List.take (Try.prog.cellsOf 3) (List.drop 1 [u0, u1, u2]) = _ at eb
          change List.take (Try.prog.cellsOf 3) (List.drop 2 [u0, u1, u2]) = _ at ec
          rw [hI] at ea eb ec
          simp at ea eb ec
          subst ea
          subst eb
          subst ec
          rw [Go.Deep.add_add] at k0 k1 k2
          exact ⟨a, b, c, k0, k1, k2⟩)
      exact ⟨some x, l, c, F, hcs, hF⟩
  obtain ⟨A, nw, c, wd, rfl, hA, hu⟩ := hw
  obtain ⟨A', n, c', F, rfl, hT⟩ := ht
  exact ⟨s, A, nw, c, A', n, c', wd, F, rfl, hA, hT, hu⟩

end
end Go.Proofs.Ytkknmphigpcjjaa
