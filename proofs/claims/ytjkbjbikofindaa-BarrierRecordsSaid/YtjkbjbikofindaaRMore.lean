/-
  The reference's Count, Has, Drop and Into of remembered sets.
-/
import Derived.Test.YtjkbjbikofindaaRPut
namespace Go.Proofs.Ytjkbjbikofindaa
open Go.RowKit
set_option maxRecDepth 100000
set_option linter.unusedVariables false

theorem cntS_next {L : List SetR} {t : Nat} {x : SetR} (h : L[t]? = some x) : cntT (L.take (t + 1)) = cntT (L.take t) + x.sl.length := by
  rw [List.take_add_one, h]
  simp [cntT]
theorem cntS_le {B : Nat} : ∀ {L : List SetR}, (∀ x ∈ L, x.sl.length ≤ B) → cntT L ≤ L.length * B
  | [], _ => by simp [cntT]
  | x :: L, h => by
    have ih := cntS_le (L := L) (B := B) fun y hy => h y (List.mem_cons_of_mem _ hy)
    have := h x (by simp)
    simp only [cntT, List.map_cons, List.sum_cons, List.length_cons] at ih ⊢
    rw [Nat.add_mul]
    omega
theorem cntS_take (L : List SetR) (t : Nat) : cntT (L.take t) ≤ cntT L := by
  have h := congrArg cntT (List.take_append_drop t L)
  simp only [cntT, List.map_append, List.sum_append] at h ⊢
  omega

end Go.Proofs.Ytjkbjbikofindaa
