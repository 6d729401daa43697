/-
  Two rows of increments compared, and two increments.
-/
import Derived.Test.YtlafkkekfkamoaaUAll
import Derived.Test.YtlafkkekfkamoaaQval
import Derived.Laws.StructEq
import Derived.RegionTactic
namespace Go.Proofs.Ytlafkkekfkamoaa
open Go.RowKit
set_option maxRecDepth 100000
set_option linter.unusedVariables false

/-- Two increments that are equal. -/
def eqI (i j : IncR) : Bool := i.sq == j.sq && i.bt == j.bt && i.fi == j.fi && i.la == j.la && i.wo == j.wo
theorem eqI_iff {i j : IncR} : eqI i j = true ↔ i = j := by
  unfold eqI
  obtain ⟨a, b, c, d, e⟩ := i
  obtain ⟨a', b', c', d', e'⟩ := j
  simp [and_assoc]
theorem same_inc (i j : IncR) (W : World) : (Op.equalIn 10000 24 (.agg #[.int .i64 i.sq, .int .i64 i.bt, .int .i64 i.fi, .int .i64 i.la, .int .i64 i.wo]) (.agg #[.int .i64 j.sq, .int .i64 j.bt, .int .i64 j.fi, .int .i64 j.la, .int .i64 j.wo])).run Try.prog W = .ok (eqI i j) W := by
  by_cases h : i = j
  · subst h
    rw [eqI_iff.2 rfl]
    simp [go_sem]
  · have hf : eqI i j = false := by
      cases e : eqI i j with
      | false => rfl
      | true => exact absurd (eqI_iff.1 e) h
    rw [hf]
    obtain ⟨a, b, c, d, e⟩ := i
    obtain ⟨a', b', c', d', e'⟩ := j
    simp only [IncR.mk.injEq] at h
    simp [go_sem]
    grind
theorem eql_inc (i j : IncR) (W : World) : (binOp .eql 24 (.agg #[.int .i64 i.sq, .int .i64 i.bt, .int .i64 i.fi, .int .i64 i.la, .int .i64 i.wo]) (.agg #[.int .i64 j.sq, .int .i64 j.bt, .int .i64 j.fi, .int .i64 j.la, .int .i64 j.wo])).run Try.prog W = .ok (.bool (eqI i j)) W := by
  rw [run_eql_struct, same_inc]; rfl
theorem neq_inc (i j : IncR) (W : World) : (binOp .neq 24 (.agg #[.int .i64 i.sq, .int .i64 i.bt, .int .i64 i.fi, .int .i64 i.la, .int .i64 i.wo]) (.agg #[.int .i64 j.sq, .int .i64 j.bt, .int .i64 j.fi, .int .i64 j.la, .int .i64 j.wo])).run Try.prog W = .ok (.bool (!eqI i j)) W := by
  rw [run_neq_struct, same_inc]; rfl

set_option maxHeartbeats 1000000 in
theorem sameList_any (A B : Option Addr) (c d : Nat) (I J : List IncR) (w : World) (hI : LArr w (Lt w.heap.size) A c I) (hJ : LArr w (Lt w.heap.size) B d J) :
    Calls Try.prog 20 #[.slice A I.length c, .slice B J.length d] w (IffOf (I = J) w) := by
  have HI := Lib.hid hI
  have HJ := Lib.hid hJ
  have hm := hI.2.1
  have hm' := hI.1
  have hk := hJ.2.1
  have hk' := hJ.1
  simp only [maxLen] at hm hk
  clear hI hJ
  by_cases hl : I.length = J.length
  · have hl1 : ((I.length : Int) == J.length) = true := by simp; omega
    go_enter Try.func20, Try.ntmps20
    go_wp2_with fail
    go_loopw [13] (fun i wr => ∃ t : Nat, t ≤ I.length ∧ i = .int .i64 t ∧ (∀ (j : Nat), j < t → I[j]? = J[j]?) ∧ Below w.heap.size w wr) (fun i _ => I.length - (intOf i).toNat)
    case atStart => exact ⟨0, by omega, rfl, fun j hj => by omega, Below.refl _ _⟩
    case round =>
      obtain ⟨t, ht, rfl, hno, hb⟩ := hrel
      have HN := Lib.hid hno
      have HB := Lib.hid hb
      clear hno hb
      by_cases hlt : t < I.length
      · have hlt2 : 0 ≤ (t : Int) ∧ (t : Int) < I.length := by omega
        have hlt3 : 0 ≤ (t : Int) ∧ (t : Int) < J.length := by omega
        obtain ⟨i, hi⟩ := nth_of hlt
        obtain ⟨j, hj⟩ := nth_of (show t < J.length by omega)
        obtain ⟨b, o, rfl, _, _, c0, c1, c2, c3, c4⟩ := (HI.out.next HB.out).at_ hi
        obtain ⟨b', o', rfl, _, _, d0, d1, d2, d3, d4⟩ := (HJ.out.next HB.out).at_ hj
        have HX := Lib.hid hi
        have HY := Lib.hid hj
        have hne := neq_inc i j
        obtain ⟨q, hq⟩ : ∃ q, q = eqI i j := ⟨_, rfl⟩
        rw [← hq] at hne
        have HQ := Lib.hid hq
        clear hi hj hk hk' hq
        go_wp2_with fail
        go_region
        cases q with
        | true =>
          go_wp2_with fail
          refine ⟨⟨t + 1, by omega, by go_num, fun j hj => ?_, HB.out.drew⟩, by simp [intOf]; omega⟩
          rcases (by omega : j < t ∨ j = t) with h | h
          · exact HN.out j h
          · subst h
            rw [HX.out, HY.out, eqI_iff.1 HQ.out.symm]
        | false =>
          go_wp2_with fail
          go_ret
          exact ⟨false, rfl, iff_no (fun h => by have := HQ.out; have hx := HX.out; rw [h, HY.out] at hx; injection hx with e; rw [eqI_iff.2 e.symm] at this; cases this), HB.out.drew⟩
      · have hlt2 : ¬ (t : Int) < I.length := by omega
        have HX := Lib.hid (show I = J from by
          apply List.ext_getElem? 
          intro j
          rcases Nat.lt_or_ge j t with h | h
          · exact HN.out j h
          · rw [List.getElem?_eq_none (by omega), List.getElem?_eq_none (by omega)])
        go_wp2_with fail
        go_ret
        exact ⟨true, rfl, iff_yes HX.out, HB.out⟩
  · have hl1 : ((I.length : Int) == J.length) = false := by simp; omega
    go_enter Try.func20, Try.ntmps20
    go_wp2_with fail
    go_ret
    exact ⟨false, rfl, iff_no (fun h => hl (by rw [h])), Below.refl _ _⟩
end Go.Proofs.Ytlafkkekfkamoaa
