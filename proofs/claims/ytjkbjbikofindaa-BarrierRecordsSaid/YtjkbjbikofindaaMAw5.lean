/-
  Merged: Aw5.
-/
import Derived.Test.YtjkbjbikofindaaMChain
import Derived.Test.YtjkbjbikofindaaMBase
import Derived.Test.YtjkbjbikofindaaMPoolw
namespace Go.Proofs.Ytjkbjbikofindaa
open Go.RowKit
set_option maxRecDepth 100000
set_option linter.unusedVariables false

def P0 : Nat → Fr := fun _ => frFree
def P1 : Nat → Fr := fun j => if j = 0 then ⟨1, 1, -1⟩ else P0 j
/-- The example's table: frame 2 is followed by frame 0. -/
def Pf : Nat → Fr := fun j => if j = 2 then ⟨1, 1, 0⟩ else P1 j
theorem pf_eq : ∀ j, Pf j = link (lift (lift P0 0 1 1) 2 1 1) 2 0 j := by
  intro j
  unfold Pf P1 link lift
  by_cases h2 : j = 2
  · subst h2; rfl
  · rw [if_neg h2, if_neg h2, if_neg h2]
theorem pf_fv : FV Pf 4 := by
  have h0 : FV P0 4 := (valid_fresh (k := 3) (n := 4) (by decide) (by decide) (by decide) (by decide)).fv
  have h1 : FV (lift P0 0 1 1) 4 := lift_fv h0 (f := 0) rfl (by decide)
  have h2 : FV (lift (lift P0 0 1 1) 2 1 1) 4 := lift_fv h1 (f := 2) rfl (by decide)
  have h3 : FV (link (lift (lift P0 0 1 1) 2 1 1) 2 (0 : Nat)) 4 := link_fv h2 (l := 2) (f := 0) (by decide) (by decide) (by decide) rfl rfl (by decide) rfl rfl (fun j hj => by
    rcases (show j = 0 ∨ j = 1 ∨ j = 2 ∨ j = 3 by omega) with rfl | rfl | rfl | rfl <;> decide)
  have e : Pf = link (lift (lift P0 0 1 1) 2 1 1) 2 (0 : Nat) := funext pf_eq
  rw [e]
  exact h3
theorem pf_valid : ValidP (3 : Nat) 32 (fun _ => 0) 4 Pf := by
  refine ValidP.mk_ (by decide) (by decide) (by decide) pf_fv (fun f _ _ => ?_)
  simp [zeroB]
theorem pf_len : LenP Pf (2 : Nat) 2 := ⟨by decide, fun i hi => by
  rcases (show i = 0 ∨ i = 1 by omega) with rfl | rfl <;> decide⟩
theorem pf_step : stpE (3 : Nat) 32 (fun _ => 0) 4 Pf 23 1 = 0 ∧ stpV (3 : Nat) 32 (fun _ => 0) 4 Pf 23 1 = 0 := by
  have hp : PartsA 3 23 2 7 := ⟨by decide, by decide, by decide, by decide⟩
  obtain ⟨h1, h2⟩ := stp_ok (K := 3) (x := 1) (m := 2) (validB_yes pf_valid) (by decide) hp (by decide) (chL_length pf_len (by decide)) (by decide)
  exact ⟨h1, h2.trans (by decide)⟩
theorem pf_index : idxE (3 : Nat) 32 (fun _ => 0) 4 Pf 2 3 = 0 ∧ idxV (3 : Nat) 32 (fun _ => 0) 4 Pf 2 3 = 11 := by
  have hp : PartsA 3 3 0 3 := ⟨by decide, by decide, by decide, by decide⟩
  obtain ⟨h1, h2⟩ := idx_ok (K := 3) (f := 2) (q := 1) (validB_yes pf_valid) pf_fv (by decide) (by decide) hp (by decide) pf_len (by decide) (by decide) (fun i hi => by
    obtain rfl : i = 0 := by omega
    decide)
  exact ⟨h1, h2.trans (by decide)⟩

/-- The example's space, new. -/
def PairOut (w : World) (e : Ending) (w' : World) : Prop :=
  ∃ (A : Option Addr) (c g c' : Nat), e = .returned (.agg #[.int .i64 3, .slice A 32 c, .slice (some ⟨g, 0, none⟩) 4 c']) ∧ Own w' w.heap.size A 32 c (fun _ => 0) ∧ OwnT w' w.heap.size (some ⟨g, 0, none⟩) 4 c' Pf ∧ Below w.heap.size w w'

end Go.Proofs.Ytjkbjbikofindaa
