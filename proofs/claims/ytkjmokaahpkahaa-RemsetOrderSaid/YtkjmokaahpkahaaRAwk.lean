/-
  The example of chapter 18.
-/
import Derived.Test.YtkjmokaahpkahaaRDev
namespace Go.Proofs.Ytkjmokaahpkahaa
open Go.RowKit
set_option maxRecDepth 100000
set_option linter.unusedVariables false

theorem one_len (x : SetR) (L : List SetR) (h : L = [x]) (k : x.sl.length ≤ 1048000) : L.length ≤ 1048000 ∧ ∀ y ∈ L, y.sl.length ≤ 1048000 := by
  subst h
  exact ⟨by simp, fun y hy => by simp at hy; subst hy; exact k⟩
theorem ex_one : putS 2 0 17 [] = [⟨2, 0, [17]⟩] := rfl
theorem ex_two : putS 2 0 16 [⟨2, 0, [17]⟩] = [⟨2, 0, [16, 17]⟩] := by simp [putS, bef, withL]
theorem ex_three : putS 2 0 17 [⟨2, 0, [16, 17]⟩] = [⟨2, 0, [16, 17]⟩] := by simp [putS, bef, withL]
theorem InsOf.ok {L M : List SetR} {f g s : Int} {w : World} {e : Ending} {w' : World} (h : InsOf L f g s w e w') (hv : ValS L) (hf : numP f) (hg : numP g) (hs : 0 ≤ s) (hM : putS f g s L = M) :
    ∃ A c, e = .returned (.tuple #[.slice A M.length c, .int .i64 0]) ∧ TArr w' (Lt w'.heap.size) A c M ∧ Below w.heap.size w w' := by
  obtain ⟨v, n, rfl, hb, ⟨_, _, _, _, rfl, A, c, rfl, ht⟩ | ⟨hno, _⟩⟩ := h
  · subst hM
    exact ⟨A, c, rfl, ht, hb⟩
  · exact absurd ⟨hv, hf, hg, hs⟩ hno

set_option maxHeartbeats 4000000 in
theorem awake18_any (w : World) : Calls Try.prog 8 #[] w fun e w' => e = .returned (.bool true) ∧ Below w.heap.size w w' := by
  have n2 : numP 2 := ⟨by omega, by omega⟩
  have n0 : numP 0 := ⟨by omega, by omega⟩
  have v0 := putS_ok n2 n0 (show (0 : Int) ≤ 17 by omega) ValS.nil
  rw [ex_one] at v0
  have v1 := putS_ok n2 n0 (show (0 : Int) ≤ 16 by omega) v0
  rw [ex_two] at v1
  have V0 := Lib.hid v0
  have V1 := Lib.hid v1
  have N2 := Lib.hid n2
  have N0 := Lib.hid n0
  clear v0 v1 n2 n0
  go_enter Try.func8, Try.ntmps8
  go_wp2_with fail
  refine (devInsert_any none 0 [] w (TArr.nil _ _) 2 0 17 (by simp) (fun x hx => by simp at hx)).mono ?_
  intro e W1 h
  obtain ⟨A1, c1, rfl, h1, hb1⟩ := h.ok ValS.nil N2.out N0.out (by omega) ex_one
  have H1 := Lib.hid h1
  have B1 := Lib.hid hb1
  clear h h1 hb1
  go_wp2_with fail
  refine (devInsert_any A1 c1 _ W1 H1.out 2 0 16 (by simp) (fun x hx => by simp at hx; subst hx; simp)).mono ?_
  intro e W2 h
  obtain ⟨A2, c2, rfl, h2, hb2⟩ := h.ok V0.out N2.out N0.out (by omega) ex_two
  have H2 := Lib.hid h2
  have B2 := Lib.hid (B1.out.trans (hb2.mono B1.out.size))
  clear h h2 hb2
  go_wp2_with fail
  refine (devInsert_any A2 c2 _ W2 H2.out 2 0 17 (by simp) (fun x hx => by simp at hx; subst hx; simp)).mono ?_
  intro e W3 h
  obtain ⟨A3, c3, rfl, h3, hb3⟩ := h.ok V1.out N2.out N0.out (by omega) ex_three
  obtain ⟨b, o, A9, c9, rfl, _, _, p0, p1, p2, hS⟩ := h3.at_ (j := 0) rfl
  obtain ⟨b', o', rfl, _, _, q0⟩ := hS.at_ (j := 0) rfl
  have H3 := Lib.hid h3
  have B3 := Lib.hid (B2.out.trans (hb3.mono B2.out.size))
  simp only [Nat.zero_mul, Nat.add_zero, List.length_cons, List.length_nil] at p0 p1 p2 q0
  clear h h3 hb3 hS
  go_wp2_with fail
  refine (devHas_any (some ⟨b, o, none⟩) c3 _ W3 H3.out 2 0 17 V1.out (by simp) (fun x hx => by simp at hx; subst hx; simp)).mono ?_
  rintro e W4 ⟨q, rfl, hq, hb4⟩
  obtain rfl : q = true := hq.2 ⟨⟨2, 0, [16, 17]⟩, by simp, rfl, rfl, by simp⟩
  go_wp2_with fail
  go_ret
  exact ⟨rfl, B3.out.trans (hb4.mono B3.out.size)⟩
end Go.Proofs.Ytkjmokaahpkahaa
