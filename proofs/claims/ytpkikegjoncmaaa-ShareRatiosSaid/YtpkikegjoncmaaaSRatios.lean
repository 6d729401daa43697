/-
  The walk of ShareRatios. No conditions.
-/
import Derived.Test.YtpkikegjoncmaaaRat
import Derived.Deep.DeepCutAuto
import Derived.Deep.CutBlock
namespace Go.Proofs.Ytpkikegjoncmaaa
open Go.RowKit (wrap32 wrap64 intOf)
open Go.RowKit
set_option linter.unusedVariables false
set_option maxRecDepth 100000

/-- A slice of slices of two numbers holds at place j a pair of numbers. -/
def PairAt (W : World) (B j : Nat) : Prop := ∃ (b : Nat) (x y : Int), b < W.heap.size ∧ W.cell? ⟨B, j, none⟩ = some (.slice (some ⟨b, 0, none⟩) 2 2) ∧ W.cell? ⟨b, 0, none⟩ = some (.int .i64 x) ∧ W.cell? ⟨b, 1, none⟩ = some (.int .i64 y)
/-- The world has drawn, and is otherwise as it was. -/
def Drawn (W w : World) : Prop := ∃ n, w = W.drewN n
theorem Drawn.refl (W : World) : Drawn W W := ⟨0, rfl⟩
theorem Drawn.more {W w : World} (h : Drawn W w) (n : Nat) : Drawn W (w.drewN n) := by
  obtain ⟨m, rfl⟩ := h; exact ⟨m + n, by rw [World.drewN_drewN]⟩
theorem Drawn.drew {W w : World} (h : Drawn W w) : Drawn W w.drew := h.more 1
theorem Drawn.cell {W w : World} (h : Drawn W w) {a : Addr} {v : Value} (c : W.cell? a = some v) : w.cell? a = some v := by
  obtain ⟨m, rfl⟩ := h; exact c
theorem Drawn.since {V W w : World} (h : Drawn W w) (g : Since V W) : Since V w := by
  obtain ⟨m, rfl⟩ := h; exact g.drewN m

set_option maxHeartbeats 3200000 in
theorem walkRatios (a0 a1 : Int) (w0 : (Lit.int .i64 a0).wf = true) (w1 : (Lit.int .i64 a1).wf = true) (w : World) :
    Calls Try.prog 5 #[.int .i64 a0, .int .i64 a1] w fun e w' => e = .returned (.bool true) ∧ Grown w w' := by
  obtain ⟨l0, u0⟩ := bounds_i64 w0
  obtain ⟨l1, u1⟩ := bounds_i64 w1
  clear w0 w1
  have m1 := mod_any a0 5 (by decide) (by decide) l0 u0
  have m2 := mod_any a1 5 (by decide) (by decide) l1 u1
  have m3 := mod_any a0 2199023255552 (by decide) (by decide) l0 u0
  have m4 := mod_any a1 2199023255552 (by decide) (by decide) l1 u1
  generalize a0 % 5 = p2 at *
  generalize a1 % 5 = q2 at *
  generalize a0 % 2199023255552 = p3 at *
  generalize a1 % 2199023255552 = q3 at *
  go_enter Try.func5, Try.ntmps5
  go_wp2_with fail
  refine (m1 _).mono ?_
  rintro e w' ⟨rfl, rfl⟩
  go_wp2_with fail
  refine (m2 _).mono ?_
  rintro e w' ⟨rfl, rfl⟩
  go_wp2_with fail
  refine (m3 _).mono ?_
  rintro e w' ⟨rfl, rfl⟩
  go_wp2_with fail
  refine (m4 _).mono ?_
  rintro e w' ⟨rfl, rfl⟩
  clear m1 m2 m3 m4
  go_wp2_with fail
  obtain ⟨W, hW⟩ : ∃ W, W = ((((w.alloc (Obj.cells #[Value.int IntKind.i64 a0, Value.int IntKind.i64 a1] 3)).alloc (Obj.cells #[Value.int IntKind.i64 p2, Value.int IntKind.i64 q2] 3)).alloc (Obj.cells #[Value.int IntKind.i64 p3, Value.int IntKind.i64 q3] 3)).alloc (Obj.cells #[Value.slice (some { block := w.heap.size, off := 0 }) 2 2, Value.slice (some { block := w.heap.size + 1, off := 0 }) 2 2, Value.slice (some { block := w.heap.size + 1 + 1, off := 0 }) 2 2] 29)) := ⟨_, rfl⟩
  rw [← hW]
  have hg : Since w W := by subst hW; exact ((((Since.refl w).alloc _ _).alloc _ _).alloc _ _).alloc _ _
  have HG := Lib.hid hg
  have hz : w.heap.size + 3 < W.heap.size := by subst hW; simp
  have c00 : W.cell? ⟨w.heap.size, 0, none⟩ = some (.int .i64 a0) := by subst hW; go_simp
  have c01 : W.cell? ⟨w.heap.size, 1, none⟩ = some (.int .i64 a1) := by subst hW; go_simp
  have d0 : W.cell? ⟨w.heap.size + 1 + 1 + 1, 0, none⟩ = some (.slice (some ⟨w.heap.size, 0, none⟩) 2 2) := by subst hW; go_simp
  have c10 : W.cell? ⟨w.heap.size + 1, 0, none⟩ = some (.int .i64 p2) := by subst hW; go_simp
  have c11 : W.cell? ⟨w.heap.size + 1, 1, none⟩ = some (.int .i64 q2) := by subst hW; go_simp
  have d1 : W.cell? ⟨w.heap.size + 1 + 1 + 1, 1, none⟩ = some (.slice (some ⟨w.heap.size + 1, 0, none⟩) 2 2) := by subst hW; go_simp
  have c20 : W.cell? ⟨w.heap.size + 1 + 1, 0, none⟩ = some (.int .i64 p3) := by subst hW; go_simp
  have c21 : W.cell? ⟨w.heap.size + 1 + 1, 1, none⟩ = some (.int .i64 q3) := by subst hW; go_simp
  have d2 : W.cell? ⟨w.heap.size + 1 + 1 + 1, 2, none⟩ = some (.slice (some ⟨w.heap.size + 1 + 1, 0, none⟩) 2 2) := by subst hW; go_simp
  clear hW hg
  have HC : Hid (∀ j : Nat, j < 3 → PairAt W (w.heap.size + 1 + 1 + 1) j) := by
    refine Lib.hid fun j hj => ?_
    have hj' : j = 0 ∨ j = 1 ∨ j = 2 := by omega
    rcases hj' with rfl | rfl | rfl
    · exact ⟨_, a0, a1, by omega, d0, c00, c01⟩
    · exact ⟨_, p2, q2, by omega, d1, c10, c11⟩
    · exact ⟨_, p3, q3, by omega, d2, c20, c21⟩
  clear d0 d1 d2 c00 c01 c10 c11 c20 c21 hz
  generalize w.heap.size + 1 + 1 + 1 = B at *
  go_loopw [22] (fun i wr => ∃ j : Nat, j ≤ 3 ∧ i = .int .i64 j ∧ Drawn W wr) (fun i _ => 3 - (intOf i).toNat)
  case atStart => exact ⟨0, Nat.zero_le _, rfl, Drawn.refl _⟩
  case round =>
    obtain ⟨j, hj, rfl, hd⟩ := hrel
    by_cases hlt : j < 3
    · obtain ⟨b, x, y, hb, e0, e1, e2⟩ := HC.out j hlt
      have f0 := hd.cell e0
      have f1 := hd.cell e1
      have f2 := hd.cell e2
      have HD := Lib.hid hd
      clear e0 e1 e2 hd hb
      go_wp2_with fail
      go_cut [41] (fun v wx => v = .bool false ∧ Drawn W wx)
      case first =>
        go_region_held3 (fun w' => w'.cell? ⟨b, 0, none⟩ = some (.int .i64 x) ∧ w'.cell? ⟨b, 1, none⟩ = some (.int .i64 y))
          (first | (with_reducible exact ⟨f1, f2⟩) | go_keep)
          (first
            | (go_at_call 23; refine (ratio_any x y _).mono ?_; rintro e w' ⟨r1, n1, rfl, rfl, h1⟩; have hr1 := h1)
            | (go_at_call 24; refine (refRatio_any x y _).mono ?_; rintro e w' ⟨r2, n2, rfl, rfl, h2⟩; have hr2 := h2)
            | (go_at_call 22; refine (same_any _ _ hr1.1 hr2.1 _).mono ?_; rintro e w' ⟨rfl, rfl⟩))
        all_goals
          go_wp2
          go_meet
          exact ⟨by rw [hr1.same hr2]; rfl, (HD.out.more _)⟩
      case rest =>
        obtain ⟨rfl, hd⟩ := hcut
        have HE := Lib.hid hd
        clear hd f0 f1 f2
        go_wp2_with fail
        go_roundw
        case rel => exact ⟨j + 1, by omega, by go_num, HE.out⟩
        case measure => simp [intOf]; omega
    · have hj3 : ¬ (j : Int) < 3 := by omega
      have HD := Lib.hid hd
      clear hd
      go_wp2_with fail
      refine (awake_any _).mono ?_
      rintro e w' ⟨rfl, rfl⟩
      go_wp2_with fail
      go_ret
      exact ⟨rfl, (HD.out.since HG.out).2⟩
end Go.Proofs.Ytpkikegjoncmaaa
