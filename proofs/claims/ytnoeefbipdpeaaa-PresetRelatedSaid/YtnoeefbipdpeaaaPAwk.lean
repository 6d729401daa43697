/-
  The laws' sanity check: a preset by its name.
-/
import Derived.Test.YtnoeefbipdpeaaaPDev
import Derived.Test.YtnoeefbipdpeaaaPSame
namespace Go.Proofs.Ytnoeefbipdpeaaa
open Go.RowKit
set_option maxRecDepth 100000
set_option linter.unusedVariables false

theorem pc25 : Sh.pcF 25 = 4598175219545276416 := by decide +kernel
/-- What a row of two or three rules holds. -/
theorem RArr.two {w : World} {P : Nat → Prop} {A : Option Addr} {c : Nat} {r0 r1 : Rl} {R : List Rl} (h : RArr w P A c (r0 :: r1 :: R)) : ∃ b o, A = some ⟨b, o, none⟩ ∧ P b ∧ b < w.heap.size ∧
    w.cell? ⟨b, o, none⟩ = some (.float .f64 r0.s) ∧ w.cell? ⟨b, o + 1, none⟩ = some (.int .i64 r0.l) ∧ w.cell? ⟨b, o + 2, none⟩ = some (.int .i64 r0.b) ∧ w.cell? ⟨b, o + 3, none⟩ = some (.int .i64 r0.t) ∧
    w.cell? ⟨b, o + 4, none⟩ = some (.float .f64 r1.s) ∧ w.cell? ⟨b, o + 4 + 1, none⟩ = some (.int .i64 r1.l) ∧ w.cell? ⟨b, o + 4 + 2, none⟩ = some (.int .i64 r1.b) ∧ w.cell? ⟨b, o + 4 + 3, none⟩ = some (.int .i64 r1.t) := by
  obtain ⟨b, o, e, hp, hl, a0, a1, a2, a3⟩ := h.at_ (j := 0) rfl
  obtain ⟨b', o', e', _, _, b0, b1, b2, b3⟩ := h.at_ (j := 1) rfl
  subst e
  injection e' with e'
  injection e' with e1 e2
  subst e1 e2
  exact ⟨b, o, rfl, hp, hl, by simpa using a0, by simpa using a1, by simpa using a2, by simpa using a3, by simpa using b0, by simpa using b1, by simpa using b2, by simpa using b3⟩
set_option maxHeartbeats 2000000 in
theorem awake14_any (w : World) : Calls Try.prog 12 #[] w fun e w' => e = .returned (.bool true) ∧ Below w.heap.size w w' := by
  have h1 := get14_any (preN 4) 25 (by decide) (by decide) w
  obtain ⟨e1, e2, e3, e4⟩ := gets_yes (i := 4) (by omega) (p := 25) (by decide)
  unfold GetOf at h1
  rw [e1, e2, e3, e4, pc25] at h1
  simp only [preN] at h1
  clear e1 e2 e3 e4
  go_enter Try.func12, Try.ntmps12
  go_wp2_with fail
  refine h1.mono ?_
  rintro e W1 ⟨v, rfl, hv, hb1⟩
  obtain ⟨A, c, rfl, hra⟩ := hv.slice
  simp only [preR, preF, List.length_cons, List.length_nil, Nat.zero_add, Nat.reduceAdd] at hra ⊢
  have HB := Lib.hid hb1
  obtain ⟨g, o, rfl, _, hlt, a0, a1, a2, a3, b0, b1, b2, b3⟩ := hra.lt.two
  simp only at a0 a1 a2 a3 b0 b1 b2 b3
  clear h1 hb1 hra hv a1 a2 a3 b0 b1 b2
  go_wp2_with fail
  refine (names14_any _).mono ?_
  rintro e W3 ⟨rfl, rfl⟩
  go_wp2_with fail
  go_ret
  exact ⟨rfl, (HB.out.alloc HB.out.size _).alloc (by have := HB.out.size; simp only [World.size_alloc]; omega) _⟩
end Go.Proofs.Ytnoeefbipdpeaaa
