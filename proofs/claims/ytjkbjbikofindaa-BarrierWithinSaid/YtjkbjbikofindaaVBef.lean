/-
  Layer 15: the reference's stamps.
-/
import Derived.Test.YtjkbjbikofindaaMSpoilt
import Derived.Deep.RegionHeld3
namespace Go.Proofs.Ytjkbjbikofindaa
open Go.RowKit
set_option maxRecDepth 100000
set_option linter.unusedVariables false

/-- The stamp of an increment. -/
def stampZ (bt sq : Int) : Int := wrap64 (wrap64 (bt * 4294967296) + sq)
theorem refStamp_any (sq bt fi la wo : Int) (w : World) : Calls Try.prog 35 #[.agg #[.int .i64 sq, .int .i64 bt, .int .i64 fi, .int .i64 la, .int .i64 wo]] w fun e w' => e = .returned (.int .i64 (stampZ bt sq)) ∧ Below w.heap.size w w' := by
  go_enter Try.func35, Try.ntmps35
  go_wp2
  go_ret
  exact ⟨rfl, (Below.refl _ _).alloc (Nat.le_refl _) _⟩
theorem refBefore_any (sq bt fi la wo sq' bt' fi' la' wo' : Int) (w : World) : Calls Try.prog 19 #[.agg #[.int .i64 sq, .int .i64 bt, .int .i64 fi, .int .i64 la, .int .i64 wo], .agg #[.int .i64 sq', .int .i64 bt', .int .i64 fi', .int .i64 la', .int .i64 wo']] w fun e w' => e = .returned (.bool (decide (stampZ bt sq < stampZ bt' sq'))) ∧ Below w.heap.size w w' := by
  go_enter Try.func19, Try.ntmps19
  obtain ⟨U, hU⟩ : ∃ U, U = (w.alloc (.cells #[.int .i64 sq, .int .i64 bt, .int .i64 fi, .int .i64 la, .int .i64 wo] 51)).alloc (.cells #[.int .i64 sq', .int .i64 bt', .int .i64 fi', .int .i64 la', .int .i64 wo'] 51) := ⟨_, rfl⟩
  have B1 : Blk U w.heap.size 51 #[.int .i64 sq, .int .i64 bt, .int .i64 fi, .int .i64 la, .int .i64 wo] := by rw [hU]; exact (Blk.new _ _ _).alloc _
  have B2 : Blk U (w.heap.size + 1) 51 #[.int .i64 sq', .int .i64 bt', .int .i64 fi', .int .i64 la', .int .i64 wo'] := by rw [hU]; exact Blk.newAt _ _ _ _ (by simp)
  have HBU : Hid (Below w.heap.size w U) := by rw [hU]; exact ((Below.refl _ _).alloc (Nat.le_refl _) _).alloc (by simp) _
  have HU := Lib.hid hU
  have l1 := B1.lt
  have l2 := B2.lt
  have p0 := B1.cell 0
  have p1 := B1.cell 1
  have p2 := B1.cell 2
  have p3 := B1.cell 3
  have p4 := B1.cell 4
  have r0 := B2.cell 0
  have r1 := B2.cell 1
  have r2 := B2.cell 2
  have r3 := B2.cell 3
  have r4 := B2.cell 4
  simp at p0 p1 p2 p3 p4 r0 r1 r2 r3 r4
  clear hU B1 B2
  go_wp2_with fail
  rw [← HU.out]
  go_region_held3 (fun w' => w'.cell? ⟨w.heap.size, 0, none⟩ = some (.int .i64 sq) ∧ w'.cell? ⟨w.heap.size, 1, none⟩ = some (.int .i64 bt) ∧ w'.cell? ⟨w.heap.size, 2, none⟩ = some (.int .i64 fi) ∧ w'.cell? ⟨w.heap.size, 3, none⟩ = some (.int .i64 la) ∧ w'.cell? ⟨w.heap.size, 4, none⟩ = some (.int .i64 wo) ∧ w'.cell? ⟨w.heap.size + 1, 0, none⟩ = some (.int .i64 sq') ∧ w'.cell? ⟨w.heap.size + 1, 1, none⟩ = some (.int .i64 bt') ∧ w'.cell? ⟨w.heap.size + 1, 2, none⟩ = some (.int .i64 fi') ∧ w'.cell? ⟨w.heap.size + 1, 3, none⟩ = some (.int .i64 la') ∧ w'.cell? ⟨w.heap.size + 1, 4, none⟩ = some (.int .i64 wo'))
    (first | (with_reducible exact ⟨p0, p1, p2, p3, p4, r0, r1, r2, r3, r4⟩) | (with_reducible exact ⟨q0, q1, q2, q3, q4, s0, s1, s2, s3, s4⟩) | exact ⟨p0, p1, p2, p3, p4, r0, r1, r2, r3, r4⟩)
    (first
      | ((with_reducible show Calls _ _ #[.agg #[.int .i64 sq, _, _, _, _]] _ _); go_at_call 35; refine (refStamp_any sq bt fi la wo _).mono ?_; rintro e w1 ⟨rfl, hb⟩; have q0 := (hb.cell (p := ⟨w.heap.size, 0, none⟩) l1).trans p0; have q1 := (hb.cell (p := ⟨w.heap.size, 1, none⟩) l1).trans p1; have q2 := (hb.cell (p := ⟨w.heap.size, 2, none⟩) l1).trans p2; have q3 := (hb.cell (p := ⟨w.heap.size, 3, none⟩) l1).trans p3; have q4 := (hb.cell (p := ⟨w.heap.size, 4, none⟩) l1).trans p4; have s0 := (hb.cell (p := ⟨w.heap.size + 1, 0, none⟩) l2).trans r0; have s1 := (hb.cell (p := ⟨w.heap.size + 1, 1, none⟩) l2).trans r1; have s2 := (hb.cell (p := ⟨w.heap.size + 1, 2, none⟩) l2).trans r2; have s3 := (hb.cell (p := ⟨w.heap.size + 1, 3, none⟩) l2).trans r3; have s4 := (hb.cell (p := ⟨w.heap.size + 1, 4, none⟩) l2).trans r4)
      | (go_at_call 35; refine (refStamp_any sq' bt' fi' la' wo' _).mono ?_; rintro e w2 ⟨rfl, hb2⟩; replace hb := Below.trans hb (hb2.mono hb.size); have q0 := (hb.cell (p := ⟨w.heap.size, 0, none⟩) l1).trans p0; have q1 := (hb.cell (p := ⟨w.heap.size, 1, none⟩) l1).trans p1; have q2 := (hb.cell (p := ⟨w.heap.size, 2, none⟩) l1).trans p2; have q3 := (hb.cell (p := ⟨w.heap.size, 3, none⟩) l1).trans p3; have q4 := (hb.cell (p := ⟨w.heap.size, 4, none⟩) l1).trans p4; have s0 := (hb.cell (p := ⟨w.heap.size + 1, 0, none⟩) l2).trans r0; have s1 := (hb.cell (p := ⟨w.heap.size + 1, 1, none⟩) l2).trans r1; have s2 := (hb.cell (p := ⟨w.heap.size + 1, 2, none⟩) l2).trans r2; have s3 := (hb.cell (p := ⟨w.heap.size + 1, 3, none⟩) l2).trans r3; have s4 := (hb.cell (p := ⟨w.heap.size + 1, 4, none⟩) l2).trans r4))
  all_goals
    go_wp2
    go_ret
    exact ⟨rfl, below_next HBU.out.drew (Nat.le_refl _) hb⟩
end Go.Proofs.Ytjkbjbikofindaa
