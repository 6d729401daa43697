/-
  The reference's Insert and Same of remembered sets.
-/
import Derived.Test.YtkjmokaahpkahaaRVal
namespace Go.Proofs.Ytkjmokaahpkahaa
open Go.RowKit
set_option maxRecDepth 100000
set_option linter.unusedVariables false

/-- What Insert answers. -/
def InsOf (L : List SetR) (f g s : Int) (w : World) (e : Ending) (w' : World) : Prop :=
  ∃ v n, e = .returned (.tuple #[v, .int .i64 n]) ∧ Below w.heap.size w w' ∧
    ((ValS L ∧ numP f ∧ numP g ∧ 0 ≤ s ∧ n = 0 ∧ ∃ A c, v = .slice A (putS f g s L).length c ∧ TArr w' (Lt w'.heap.size) A c (putS f g s L)) ∨ (¬ (ValS L ∧ numP f ∧ numP g ∧ 0 ≤ s) ∧ n = 1 ∧ v = .slice none 0 0))

set_option maxHeartbeats 4000000 in
theorem insert18_any (A : Option Addr) (c : Nat) (L : List SetR) (f g s : Int) (w : World) (hL : TArr w (Lt w.heap.size) A c L) (hn : L.length ≤ 1048000) (hs : ∀ x ∈ L, x.sl.length ≤ 1048000) :
    Calls Try.prog 18 #[.slice A L.length c, .int .i64 f, .int .i64 g, .int .i64 s] w (InsOf L f g s w) := by
  have HL := Lib.hid hL
  have HSL := Lib.hid hs
  clear hL hs
  go_enter Try.func18, Try.ntmps18
  go_wp2_with fail
  refine (valid18_any A c L w HL.out).mono ?_
  rintro e W1 ⟨q, rfl, hq, hb⟩
  have HQ := Lib.hid hq
  have HB := Lib.hid hb
  clear hq hb
  cases q with
  | false =>
    have HNO := Lib.hid (show ¬ ValS L from fun h => absurd (HQ.out.2 h) (by decide))
    go_wp2_with fail
    go_ret2
    exact ⟨_, _, rfl, HB.out, .inr ⟨fun h => HNO.out h.1, rfl, rfl⟩⟩
  | true =>
    have HV := Lib.hid (HQ.out.1 rfl)
    obtain ⟨q1, hq1⟩ : ∃ q, decide (numP f) = q := ⟨_, rfl⟩
    have HQ1 := Lib.hid hq1
    clear hq1
    go_wp2_with fail
    refine (number_any f W1).mono ?_
    rintro e W2 ⟨rfl, rfl⟩
    rw [HQ1.out]
    cases q1 with
    | false =>
      go_wp2_with fail
      go_ret2
      exact ⟨_, _, rfl, HB.out, .inr ⟨fun h => (of_decide_eq_false HQ1.out) h.2.1, rfl, rfl⟩⟩
    | true =>
      obtain ⟨q2, hq2⟩ : ∃ q, decide (numP g) = q := ⟨_, rfl⟩
      have HQ2 := Lib.hid hq2
      clear hq2
      go_wp2_with fail
      refine (number_any g W2).mono ?_
      rintro e W3 ⟨rfl, rfl⟩
      rw [HQ2.out]
      cases q2 with
      | false =>
        go_wp2_with fail
        go_ret2
        exact ⟨_, _, rfl, HB.out, .inr ⟨fun h => (of_decide_eq_false HQ2.out) h.2.2.1, rfl, rfl⟩⟩
      | true =>
        by_cases h0 : s < 0
        · have H0 := Lib.hid h0
          go_wp2_with fail
          go_ret2
          exact ⟨_, _, rfl, HB.out, .inr ⟨fun h => by have := H0.out; have := h.2.2.2; omega, rfl, rfl⟩⟩
        · have H0 := Lib.hid h0
          go_wp2_with fail
          refine (putT_any A c L f g s W3 (HL.out.next HB.out) hn HSL.out).mono ?_
          rintro e W4 ⟨v, rfl, ht, hb⟩
          have HT := Lib.hid ht
          have HB4 := Lib.hid hb
          clear ht hb
          go_wp2_with fail
          go_ret2
          obtain ⟨A9, c9, rfl, h9⟩ := HT.out.tarr
          exact ⟨_, _, rfl, HB.out.trans (HB4.out.mono HB.out.size), .inl ⟨HV.out, of_decide_eq_true HQ1.out, of_decide_eq_true HQ2.out, by have := H0.out; omega, rfl, A9, c9, rfl, h9⟩⟩

end Go.Proofs.Ytkjmokaahpkahaa
