/-
  The reference's stamps, the sanity check, and the walk of OrderStamps.
-/
import Derived.Test.YtlafkkekfkamoaaUDev
import Derived.Deep.RegionHeld3
namespace Go.Proofs.Ytlafkkekfkamoaa
open Go.RowKit
set_option maxRecDepth 100000
set_option linter.unusedVariables false

theorem refStamp_any (sq bt fi la wo : Int) (w : World) : Calls Try.prog 9 #[.agg #[.int .i64 sq, .int .i64 bt, .int .i64 fi, .int .i64 la, .int .i64 wo]] w fun e w' => e = .returned (.int .i64 (stampZ bt sq)) ∧ Below w.heap.size w w' := by
  go_enter Try.func9, Try.ntmps9
  go_wp2
  go_ret
  exact ⟨rfl, (Below.refl _ _).alloc (Nat.le_refl _) _⟩
theorem refBefore_any (sq bt fi la wo sq' bt' fi' la' wo' : Int) (w : World) : Calls Try.prog 11 #[.agg #[.int .i64 sq, .int .i64 bt, .int .i64 fi, .int .i64 la, .int .i64 wo], .agg #[.int .i64 sq', .int .i64 bt', .int .i64 fi', .int .i64 la', .int .i64 wo']] w fun e w' => e = .returned (.bool (decide (stampZ bt sq < stampZ bt' sq'))) ∧ Below w.heap.size w w' := by
  go_enter Try.func11, Try.ntmps11
  obtain ⟨U, hU⟩ : ∃ U, U = (w.alloc (.cells #[.int .i64 sq, .int .i64 bt, .int .i64 fi, .int .i64 la, .int .i64 wo] 24)).alloc (.cells #[.int .i64 sq', .int .i64 bt', .int .i64 fi', .int .i64 la', .int .i64 wo'] 24) := ⟨_, rfl⟩
  have B1 : Blk U w.heap.size 24 #[.int .i64 sq, .int .i64 bt, .int .i64 fi, .int .i64 la, .int .i64 wo] := by rw [hU]; exact (Blk.new _ _ _).alloc _
  have B2 : Blk U (w.heap.size + 1) 24 #[.int .i64 sq', .int .i64 bt', .int .i64 fi', .int .i64 la', .int .i64 wo'] := by rw [hU]; exact Blk.newAt _ _ _ _ (by simp)
  have HBU : Hid (Below w.heap.size w U) := by rw [hU]; exact ((Below.refl _ _).alloc (Nat.le_refl _) _).alloc (by simp) _
  have HU := Lib.hid hU
  have l1 := B1.lt
  have l2 := B2.lt
  have p0 := B1.cell 0
  have p1 := B1.cell 1
  have p2 := B1.cell 2
  have p3 := B1.cell 3
  have p4 := B1.cell 4
  have r0 := B2.cell 0
  have r1 := B2.cell 1
  have r2 := B2.cell 2
  have r3 := B2.cell 3
  have r4 := B2.cell 4
  simp at p0 p1 p2 p3 p4 r0 r1 r2 r3 r4
  clear hU B1 B2
  go_wp2_with fail
  rw [← HU.out]
  go_region_held3 (fun w' => w'.cell? ⟨w.heap.size, 0, none⟩ = some (.int .i64 sq) ∧ w'.cell? ⟨w.heap.size, 1, none⟩ = some (.int .i64 bt) ∧ w'.cell? ⟨w.heap.size, 2, none⟩ = some (.int .i64 fi) ∧ w'.cell? ⟨w.heap.size, 3, none⟩ = some (.int .i64 la) ∧ w'.cell? ⟨w.heap.size, 4, none⟩ = some (.int .i64 wo) ∧ w'.cell? ⟨w.heap.size + 1, 0, none⟩ = some (.int .i64 sq') ∧ w'.cell? ⟨w.heap.size + 1, 1, none⟩ = some (.int .i64 bt') ∧ w'.cell? ⟨w.heap.size + 1, 2, none⟩ = some (.int .i64 fi') ∧ w'.cell? ⟨w.heap.size + 1, 3, none⟩ = some (.int .i64 la') ∧ w'.cell? ⟨w.heap.size + 1, 4, none⟩ = some (.int .i64 wo'))
    (first | (with_reducible exact ⟨p0, p1, p2, p3, p4, r0, r1, r2, r3, r4⟩) | (with_reducible exact ⟨q0, q1, q2, q3, q4, s0, s1, s2, s3, s4⟩) | exact ⟨p0, p1, p2, p3, p4, r0, r1, r2, r3, r4⟩)
    (first
      | ((with_reducible show Calls _ _ #[.agg #[.int .i64 sq, _, _, _, _]] _ _); go_at_call 9; refine (refStamp_any sq bt fi la wo _).mono ?_; rintro e w1 ⟨rfl, hb⟩; have q0 := (hb.cell (p := ⟨w.heap.size, 0, none⟩) l1).trans p0; have q1 := (hb.cell (p := ⟨w.heap.size, 1, none⟩) l1).trans p1; have q2 := (hb.cell (p := ⟨w.heap.size, 2, none⟩) l1).trans p2; have q3 := (hb.cell (p := ⟨w.heap.size, 3, none⟩) l1).trans p3; have q4 := (hb.cell (p := ⟨w.heap.size, 4, none⟩) l1).trans p4; have s0 := (hb.cell (p := ⟨w.heap.size + 1, 0, none⟩) l2).trans r0; have s1 := (hb.cell (p := ⟨w.heap.size + 1, 1, none⟩) l2).trans r1; have s2 := (hb.cell (p := ⟨w.heap.size + 1, 2, none⟩) l2).trans r2; have s3 := (hb.cell (p := ⟨w.heap.size + 1, 3, none⟩) l2).trans r3; have s4 := (hb.cell (p := ⟨w.heap.size + 1, 4, none⟩) l2).trans r4)
      | (go_at_call 9; refine (refStamp_any sq' bt' fi' la' wo' _).mono ?_; rintro e w2 ⟨rfl, hb2⟩; replace hb := Below.trans hb (hb2.mono hb.size); have q0 := (hb.cell (p := ⟨w.heap.size, 0, none⟩) l1).trans p0; have q1 := (hb.cell (p := ⟨w.heap.size, 1, none⟩) l1).trans p1; have q2 := (hb.cell (p := ⟨w.heap.size, 2, none⟩) l1).trans p2; have q3 := (hb.cell (p := ⟨w.heap.size, 3, none⟩) l1).trans p3; have q4 := (hb.cell (p := ⟨w.heap.size, 4, none⟩) l1).trans p4; have s0 := (hb.cell (p := ⟨w.heap.size + 1, 0, none⟩) l2).trans r0; have s1 := (hb.cell (p := ⟨w.heap.size + 1, 1, none⟩) l2).trans r1; have s2 := (hb.cell (p := ⟨w.heap.size + 1, 2, none⟩) l2).trans r2; have s3 := (hb.cell (p := ⟨w.heap.size + 1, 3, none⟩) l2).trans r3; have s4 := (hb.cell (p := ⟨w.heap.size + 1, 4, none⟩) l2).trans r4))
  all_goals
    go_wp2
    go_ret
    exact ⟨rfl, below_next HBU.out.drew (Nat.le_refl _) hb⟩

theorem awake15_any (w : World) : Calls Try.prog 12 #[] w fun e w' => e = .returned (.bool true) ∧ Below w.heap.size w w' := by
  have h1 : decide (stampZ 0 9 < stampZ 1 3) = true := by decide +kernel
  have h2 : (stampZ 1 3 == 4294967299) = true := by decide +kernel
  go_enter Try.func12, Try.ntmps12
  go_wp2_with fail
  refine (before_any 9 0 0 0 0 3 1 0 0 0 w).mono ?_
  rintro e w1 ⟨rfl, hb⟩
  rw [h1]
  have HB := Lib.hid hb
  clear hb h1
  go_wp2_with fail
  refine (stamp_any 3 1 0 0 0 w1).mono ?_
  rintro e w2 ⟨rfl, hb⟩
  have HB2 := Lib.hid (below_next HB.out (Nat.le_refl _) hb)
  clear hb
  go_wp2_with fail
  go_ret
  exact ⟨rfl, HB2.out⟩

/-- Four pairs of increments in a row of rows. -/
theorem pairs_arr {V : World} {x y z : IncR} : QArr (((((V.alloc (.cells #[.int .i64 x.sq, .int .i64 x.bt, .int .i64 x.fi, .int .i64 x.la, .int .i64 x.wo, .int .i64 y.sq, .int .i64 y.bt, .int .i64 y.fi, .int .i64 y.la, .int .i64 y.wo] 24)).alloc (.cells #[.int .i64 y.sq, .int .i64 y.bt, .int .i64 y.fi, .int .i64 y.la, .int .i64 y.wo, .int .i64 x.sq, .int .i64 x.bt, .int .i64 x.fi, .int .i64 x.la, .int .i64 x.wo] 24)).alloc (.cells #[.int .i64 x.sq, .int .i64 x.bt, .int .i64 x.fi, .int .i64 x.la, .int .i64 x.wo, .int .i64 x.sq, .int .i64 x.bt, .int .i64 x.fi, .int .i64 x.la, .int .i64 x.wo] 24)).alloc (.cells #[.int .i64 x.sq, .int .i64 x.bt, .int .i64 x.fi, .int .i64 x.la, .int .i64 x.wo, .int .i64 z.sq, .int .i64 z.bt, .int .i64 z.fi, .int .i64 z.la, .int .i64 z.wo] 24)).alloc (.cells #[.slice (some ⟨V.heap.size, 0, none⟩) 2 2, .slice (some ⟨V.heap.size + 1, 0, none⟩) 2 2, .slice (some ⟨V.heap.size + 2, 0, none⟩) 2 2, .slice (some ⟨V.heap.size + 3, 0, none⟩) 2 2] 25)) (Lt (V.heap.size + 5)) (some ⟨V.heap.size + 4, 0, none⟩) 4 [[x, y], [y, x], [x, x], [x, z]] := by
  generalize hW : (((((V.alloc _).alloc _).alloc _).alloc _).alloc _ : World) = W
  have b0 : Blk W V.heap.size 24 #[.int .i64 x.sq, .int .i64 x.bt, .int .i64 x.fi, .int .i64 x.la, .int .i64 x.wo, .int .i64 y.sq, .int .i64 y.bt, .int .i64 y.fi, .int .i64 y.la, .int .i64 y.wo] := by rw [← hW]; exact ((((Blk.newAt _ _ _ _ (by simp)).alloc _).alloc _).alloc _).alloc _
  have b1 : Blk W (V.heap.size + 1) 24 #[.int .i64 y.sq, .int .i64 y.bt, .int .i64 y.fi, .int .i64 y.la, .int .i64 y.wo, .int .i64 x.sq, .int .i64 x.bt, .int .i64 x.fi, .int .i64 x.la, .int .i64 x.wo] := by rw [← hW]; exact (((Blk.newAt _ _ _ _ (by simp)).alloc _).alloc _).alloc _
  have b2 : Blk W (V.heap.size + 2) 24 #[.int .i64 x.sq, .int .i64 x.bt, .int .i64 x.fi, .int .i64 x.la, .int .i64 x.wo, .int .i64 x.sq, .int .i64 x.bt, .int .i64 x.fi, .int .i64 x.la, .int .i64 x.wo] := by rw [← hW]; exact ((Blk.newAt _ _ _ _ (by simp)).alloc _).alloc _
  have b3 : Blk W (V.heap.size + 3) 24 #[.int .i64 x.sq, .int .i64 x.bt, .int .i64 x.fi, .int .i64 x.la, .int .i64 x.wo, .int .i64 z.sq, .int .i64 z.bt, .int .i64 z.fi, .int .i64 z.la, .int .i64 z.wo] := by rw [← hW]; exact (Blk.newAt _ _ _ _ (by simp)).alloc _
  have b4 : Blk W (V.heap.size + 4) 25 #[.slice (some ⟨V.heap.size, 0, none⟩) 2 2, .slice (some ⟨V.heap.size + 1, 0, none⟩) 2 2, .slice (some ⟨V.heap.size + 2, 0, none⟩) 2 2, .slice (some ⟨V.heap.size + 3, 0, none⟩) 2 2] := by rw [← hW]; exact Blk.newAt _ _ _ _ (by simp)
  clear hW
  have two : ∀ (g : Nat) (i j : IncR), g < V.heap.size + 5 → Blk W g 24 #[.int .i64 i.sq, .int .i64 i.bt, .int .i64 i.fi, .int .i64 i.la, .int .i64 i.wo, .int .i64 j.sq, .int .i64 j.bt, .int .i64 j.fi, .int .i64 j.la, .int .i64 j.wo] → LArr W (Lt (V.heap.size + 5)) (some ⟨g, 0, none⟩) 2 [i, j] := by
    intro g i j hg hb
    refine ⟨by simp, by simp [maxLen], (fun e => by cases e), fun _ => ⟨g, 0, rfl, hg, fun k y hk => ?_⟩⟩
    rcases k with _ | _ | k
    · simp at hk
      subst hk
      exact ⟨hb.cell 0, hb.cell 1, hb.cell 2, hb.cell 3, hb.cell 4⟩
    · simp at hk
      subst hk
      exact ⟨hb.cell 5, hb.cell 6, hb.cell 7, hb.cell 8, hb.cell 9⟩
    · simp at hk
  refine ⟨by simp, by simp [maxLen], (fun e => by cases e), fun _ => ⟨_, 0, rfl, by show _ < _; omega, fun k q hk => ?_⟩⟩
  rcases k with _ | _ | _ | _ | k
  · simp at hk
    subst hk
    exact ⟨_, 2, b4.cell 0, two _ _ _ (by omega) b0⟩
  · simp at hk
    subst hk
    exact ⟨_, 2, b4.cell 1, two _ _ _ (by omega) b1⟩
  · simp at hk
    subst hk
    exact ⟨_, 2, b4.cell 2, two _ _ _ (by omega) b2⟩
  · simp at hk
    subst hk
    exact ⟨_, 2, b4.cell 3, two _ _ _ (by omega) b3⟩
  · simp at hk

theorem pairs_at {x y z : IncR} (t : Nat) (ht : t < 4) : ∃ i j, [[x, y], [y, x], [x, x], [x, z]][t]? = some [i, j] := by
  rcases (by omega : t = 0 ∨ t = 1 ∨ t = 2 ∨ t = 3) with rfl | rfl | rfl | rfl <;> exact ⟨_, _, rfl⟩

set_option maxHeartbeats 8000000 in
theorem walkStamps (w : World) (a b c d : Int) (a0 : -9223372036854775808 ≤ a) (a1 : a ≤ 9223372036854775807) (b0 : -9223372036854775808 ≤ b) (b1 : b ≤ 9223372036854775807) (c0 : -9223372036854775808 ≤ c) (c1 : c ≤ 9223372036854775807) (d0 : -9223372036854775808 ≤ d) (d1 : d ≤ 9223372036854775807) :
    Calls Try.prog 3 #[.int .i64 a, .int .i64 b, .int .i64 c, .int .i64 d] w fun e w' => e = .returned (.bool true) ∧ Below w.heap.size w w' := by
  have hma := fun W => mod_any a 4 (by decide) (by decide) a0 a1 W
  have hmb := fun W => mod_any b 4294967296 (by decide) (by decide) b0 b1 W
  have hmc := fun W => mod_any c 4 (by decide) (by decide) c0 c1 W
  have hmd := fun W => mod_any d 4294967296 (by decide) (by decide) d0 d1 W
  have hme := fun W => mod_any d 3 (by decide) (by decide) d0 d1 W
  generalize a % 4 = x1 at hma
  generalize b % 4294967296 = x0 at hmb
  generalize c % 4 = y1 at hmc
  generalize d % 4294967296 = y0 at hmd
  generalize d % 3 = z0 at hme
  obtain ⟨X, hX⟩ : ∃ X, X = IncR.mk x0 x1 0 0 0 := ⟨_, rfl⟩
  clear a0 a1 b0 b1 c0 c1 d0 d1
  go_enter Try.func3, Try.ntmps3
  go_wp2_with fail
  refine (hma _).mono ?_
  rintro e w1 ⟨rfl, rfl⟩
  go_wp2_with fail
  refine (hmb _).mono ?_
  rintro e w1 ⟨rfl, rfl⟩
  go_wp2_with fail
  refine (hmc _).mono ?_
  rintro e w1 ⟨rfl, rfl⟩
  go_wp2_with fail
  refine (hmd _).mono ?_
  rintro e w1 ⟨rfl, rfl⟩
  go_upto_region 3 with fail
  obtain ⟨U, hU⟩ : ∃ U, U = (w.alloc (.cells #[.int .i64 x0, .int .i64 x1, .int .i64 0, .int .i64 0, .int .i64 0] 24)).alloc (.cells #[.int .i64 y0, .int .i64 y1, .int .i64 0, .int .i64 0, .int .i64 0] 24) := ⟨_, rfl⟩
  rw [← hU]
  have B1 : Blk U w.heap.size 24 #[.int .i64 x0, .int .i64 x1, .int .i64 0, .int .i64 0, .int .i64 0] := by rw [hU]; exact (Blk.new _ _ _).alloc _
  have B2 : Blk U (w.heap.size + 1) 24 #[.int .i64 y0, .int .i64 y1, .int .i64 0, .int .i64 0, .int .i64 0] := by rw [hU]; exact Blk.newAt _ _ _ _ (by simp)
  have HBU : Hid (Below w.heap.size w U) := by rw [hU]; exact ((Below.refl _ _).alloc (Nat.le_refl _) _).alloc (by simp) _
  have HB1 := Lib.hid B1
  have HB2 := Lib.hid B2
  clear hU B1 B2
  go_cut [11] (fun q wx => ∃ g, q = .pointer (some ⟨g, 0, none⟩) ∧ Blk wx g 24 #[.int .i64 z0, .int .i64 x1, .int .i64 0, .int .i64 0, .int .i64 0] ∧ Below U.heap.size U wx)
  case first =>
    have l1 := HB1.out.lt
    have p1 := HB1.out.cell 1
    simp at p1
    have p1d : U.drew.cell? ⟨w.heap.size, 1, none⟩ = some (.int .i64 x1) := p1
    have pA := (((Below.refl U.heap.size U).alloc (Nat.le_refl _) (.cells #[.int .i64 0, .int .i64 0, .int .i64 0, .int .i64 0, .int .i64 0] 24)).cell (p := ⟨w.heap.size, 1, none⟩) l1).trans p1
    have pAd : (U.alloc (.cells #[.int .i64 0, .int .i64 0, .int .i64 0, .int .i64 0, .int .i64 0] 24)).drew.cell? ⟨w.heap.size, 1, none⟩ = some (.int .i64 x1) := pA
    go_region_held3 (fun w' => w'.cell? ⟨w.heap.size, 1, none⟩ = some (.int .i64 x1))
      (first | (with_reducible exact p1d) | (with_reducible exact pAd) | exact p1d | go_keep)
      (first | (go_at_call 7; refine (hme _).mono ?_; rintro e w1 ⟨rfl, rfl⟩))
    all_goals
      go_wp2
      go_meet
      first
      | exact ⟨U.heap.size, rfl, Blk.new U _ _, ((Below.refl _ _).alloc (Nat.le_refl _) _).drew⟩
      | exact ⟨U.heap.size, rfl, ((((((Blk.new U 24 #[.int .i64 0, .int .i64 0, .int .i64 0, .int .i64 0, .int .i64 0]).set_ 0 (.int .i64 z0)).set_ 1 (.int .i64 x1)).set_ 2 (.int .i64 0)).set_ 3 (.int .i64 0)).set_ 4 (.int .i64 0)), below_put5 (((Below.refl _ _).alloc (Nat.le_refl _) _).drew) (Nat.le_refl _) _ _ _ _ _⟩
  case rest =>
    obtain ⟨g, rfl, hZ, hb⟩ := hcut
    have hx := HB1.out.next hb
    have hy := HB2.out.next hb
    have HBW : Hid (Below w.heap.size w wc) := below_next HBU.out (Nat.le_refl _) hb
    have p0 := hx.cell 0
    have p1 := hx.cell 1
    have p2 := hx.cell 2
    have p3 := hx.cell 3
    have p4 := hx.cell 4
    have q0 := hy.cell 0
    have q1 := hy.cell 1
    have q2 := hy.cell 2
    have q3 := hy.cell 3
    have q4 := hy.cell 4
    have r0 := hZ.cell 0
    have r1 := hZ.cell 1
    have r2 := hZ.cell 2
    have r3 := hZ.cell 3
    have r4 := hZ.cell 4
    simp at p0 p1 p2 p3 p4 q0 q1 q2 q3 q4 r0 r1 r2 r3 r4
    have l1 := hx.lt
    have l2 := hy.lt
    have l3 := hZ.lt
    obtain ⟨W, hW⟩ : ∃ W, W = (((((wc.alloc (.cells #[.int .i64 x0, .int .i64 x1, .int .i64 0, .int .i64 0, .int .i64 0, .int .i64 y0, .int .i64 y1, .int .i64 0, .int .i64 0, .int .i64 0] 24)).alloc (.cells #[.int .i64 y0, .int .i64 y1, .int .i64 0, .int .i64 0, .int .i64 0, .int .i64 x0, .int .i64 x1, .int .i64 0, .int .i64 0, .int .i64 0] 24)).alloc (.cells #[.int .i64 x0, .int .i64 x1, .int .i64 0, .int .i64 0, .int .i64 0, .int .i64 x0, .int .i64 x1, .int .i64 0, .int .i64 0, .int .i64 0] 24)).alloc (.cells #[.int .i64 x0, .int .i64 x1, .int .i64 0, .int .i64 0, .int .i64 0, .int .i64 z0, .int .i64 x1, .int .i64 0, .int .i64 0, .int .i64 0] 24)).alloc (.cells #[.slice (some ⟨wc.heap.size, 0, none⟩) 2 2, .slice (some ⟨wc.heap.size + 1, 0, none⟩) 2 2, .slice (some ⟨wc.heap.size + 1 + 1, 0, none⟩) 2 2, .slice (some ⟨wc.heap.size + 1 + 1 + 1, 0, none⟩) 2 2] 25)) := ⟨_, rfl⟩
    have hqa : QArr W (Lt (wc.heap.size + 5)) (some ⟨wc.heap.size + 1 + 1 + 1 + 1, 0, none⟩) 4 [[⟨x0, x1, 0, 0, 0⟩, ⟨y0, y1, 0, 0, 0⟩], [⟨y0, y1, 0, 0, 0⟩, ⟨x0, x1, 0, 0, 0⟩], [⟨x0, x1, 0, 0, 0⟩, ⟨x0, x1, 0, 0, 0⟩], [⟨x0, x1, 0, 0, 0⟩, ⟨z0, x1, 0, 0, 0⟩]] := by rw [hW]; exact pairs_arr (V := wc) (x := IncR.mk x0 x1 0 0 0) (y := IncR.mk y0 y1 0 0 0) (z := IncR.mk z0 x1 0 0 0)
    have hbq : Below wc.heap.size wc W := by rw [hW]; exact (((((Below.refl wc.heap.size wc).alloc (Nat.le_refl _) (.cells #[.int .i64 x0, .int .i64 x1, .int .i64 0, .int .i64 0, .int .i64 0, .int .i64 y0, .int .i64 y1, .int .i64 0, .int .i64 0, .int .i64 0] 24)).alloc (by simp) (.cells #[.int .i64 y0, .int .i64 y1, .int .i64 0, .int .i64 0, .int .i64 0, .int .i64 x0, .int .i64 x1, .int .i64 0, .int .i64 0, .int .i64 0] 24)).alloc (by simp; omega) (.cells #[.int .i64 x0, .int .i64 x1, .int .i64 0, .int .i64 0, .int .i64 0, .int .i64 x0, .int .i64 x1, .int .i64 0, .int .i64 0, .int .i64 0] 24)).alloc (by simp; omega) (.cells #[.int .i64 x0, .int .i64 x1, .int .i64 0, .int .i64 0, .int .i64 0, .int .i64 z0, .int .i64 x1, .int .i64 0, .int .i64 0, .int .i64 0] 24)).alloc (by simp; omega) (.cells #[.slice (some ⟨wc.heap.size, 0, none⟩) 2 2, .slice (some ⟨wc.heap.size + 1, 0, none⟩) 2 2, .slice (some ⟨wc.heap.size + 2, 0, none⟩) 2 2, .slice (some ⟨wc.heap.size + 3, 0, none⟩) 2 2] 25)
    have HQA := Lib.hid hqa.lt
    have HBQ : Hid (Below w.heap.size w W) := below_next HBW.out (Nat.le_refl _) hbq
    have HW := Lib.hid hW
    have m1 : w.heap.size < wc.heap.size + 1 := by omega
    have m2 : w.heap.size < wc.heap.size + 1 + 1 := by omega
    have m3 : w.heap.size < wc.heap.size + 1 + 1 + 1 := by omega
    have m4 : w.heap.size < wc.heap.size + 1 + 1 + 1 + 1 := by omega
    have n1 : w.heap.size + 1 < wc.heap.size + 1 := by omega
    have n2 : w.heap.size + 1 < wc.heap.size + 1 + 1 := by omega
    have n3 : w.heap.size + 1 < wc.heap.size + 1 + 1 + 1 := by omega
    have n4 : w.heap.size + 1 < wc.heap.size + 1 + 1 + 1 + 1 := by omega
    have o1 : g < wc.heap.size + 1 := by omega
    have o2 : g < wc.heap.size + 1 + 1 := by omega
    have o3 : g < wc.heap.size + 1 + 1 + 1 := by omega
    have o4 : g < wc.heap.size + 1 + 1 + 1 + 1 := by omega
    clear hqa hbq hx hy hZ hb HB1 HB2 hW
    go_wp2_with fail
    rw [← HW.out]
    clear p0 p1 p2 p3 p4 q0 q1 q2 q3 q4 r0 r1 r2 r3 r4 l1 l2 l3 m1 m2 m3 m4 n1 n2 n3 n4 o1 o2 o3 o4 HW
    go_loopw [43] (fun i wr => ∃ t : Nat, t ≤ 4 ∧ i = .int .i64 t ∧ Below W.heap.size W wr) (fun i _ => 4 - (intOf i).toNat)
    case atStart => exact ⟨0, by omega, rfl, Below.refl _ _⟩
    case round =>
      obtain ⟨t, ht, rfl, hb⟩ := hrel
      have HB := Lib.hid hb
      clear hb
      by_cases hlt : t < 4
      · have hlt2 : 0 ≤ (t : Int) ∧ (t : Int) < 4 := by omega
        obtain ⟨i, j, hq⟩ := pairs_at (x := ⟨x0, x1, 0, 0, 0⟩) (y := ⟨y0, y1, 0, 0, 0⟩) (z := ⟨z0, x1, 0, 0, 0⟩) t hlt
        obtain ⟨b, o, A', c', e1, _, zq, c0, hL⟩ := (HQA.out.next HB.out).at_ hq
        injection e1 with e1
        injection e1 with e1 e2
        subst e1 e2
        obtain ⟨b', o', rfl, _, zb, f0, f1, f2, f3, f4⟩ := hL.at_ (j := 0) rfl
        obtain ⟨b2, o2, e3, _, _, g0, g1, g2, g3, g4⟩ := hL.at_ (j := 1) rfl
        injection e3 with e3
        injection e3 with e3 e4
        subst e3 e4
        simp at c0 f0 f1 f2 f3 f4 g0 g1 g2 g3 g4
        generalize i.sq = i0 at f0
        generalize i.bt = i1 at f1
        generalize i.fi = i2 at f2
        generalize i.la = i3 at f3
        generalize i.wo = i4 at f4
        generalize j.sq = j0 at g0
        generalize j.bt = j1 at g1
        generalize j.fi = j2 at g2
        generalize j.la = j3 at g3
        generalize j.wo = j4 at g4
        clear hq hL
        go_wp2_with fail
        go_cut [72] (fun q wx => q = .bool false ∧ Below wr.heap.size wr wx)
        case first =>
          have hc : Below wr.drew.heap.size wr.drew wr.drew := Below.refl _ _
          have zb : b' < wr.drew.heap.size := zb
          replace f0 : wr.drew.cell? ⟨b', o', none⟩ = some (.int .i64 i0) := f0
          replace f1 : wr.drew.cell? ⟨b', o' + 1, none⟩ = some (.int .i64 i1) := f1
          replace f2 : wr.drew.cell? ⟨b', o' + 2, none⟩ = some (.int .i64 i2) := f2
          replace f3 : wr.drew.cell? ⟨b', o' + 3, none⟩ = some (.int .i64 i3) := f3
          replace f4 : wr.drew.cell? ⟨b', o' + 4, none⟩ = some (.int .i64 i4) := f4
          replace g0 : wr.drew.cell? ⟨b', o' + 5, none⟩ = some (.int .i64 j0) := g0
          replace g1 : wr.drew.cell? ⟨b', o' + 6, none⟩ = some (.int .i64 j1) := g1
          replace g2 : wr.drew.cell? ⟨b', o' + 7, none⟩ = some (.int .i64 j2) := g2
          replace g3 : wr.drew.cell? ⟨b', o' + 8, none⟩ = some (.int .i64 j3) := g3
          replace g4 : wr.drew.cell? ⟨b', o' + 9, none⟩ = some (.int .i64 j4) := g4
          go_region_held3 (fun w' => w'.cell? ⟨b', o', none⟩ = some (.int .i64 i0) ∧ w'.cell? ⟨b', o' + 1, none⟩ = some (.int .i64 i1) ∧ w'.cell? ⟨b', o' + 2, none⟩ = some (.int .i64 i2) ∧ w'.cell? ⟨b', o' + 3, none⟩ = some (.int .i64 i3) ∧ w'.cell? ⟨b', o' + 4, none⟩ = some (.int .i64 i4) ∧ w'.cell? ⟨b', o' + 5, none⟩ = some (.int .i64 j0) ∧ w'.cell? ⟨b', o' + 6, none⟩ = some (.int .i64 j1) ∧ w'.cell? ⟨b', o' + 7, none⟩ = some (.int .i64 j2) ∧ w'.cell? ⟨b', o' + 8, none⟩ = some (.int .i64 j3) ∧ w'.cell? ⟨b', o' + 9, none⟩ = some (.int .i64 j4))
            (first | (with_reducible exact ⟨f0, f1, f2, f3, f4, g0, g1, g2, g3, g4⟩) | (with_reducible exact ⟨(hc.cell (p := ⟨b', o', none⟩) zb).trans f0, (hc.cell (p := ⟨b', o' + 1, none⟩) zb).trans f1, (hc.cell (p := ⟨b', o' + 2, none⟩) zb).trans f2, (hc.cell (p := ⟨b', o' + 3, none⟩) zb).trans f3, (hc.cell (p := ⟨b', o' + 4, none⟩) zb).trans f4, (hc.cell (p := ⟨b', o' + 5, none⟩) zb).trans g0, (hc.cell (p := ⟨b', o' + 6, none⟩) zb).trans g1, (hc.cell (p := ⟨b', o' + 7, none⟩) zb).trans g2, (hc.cell (p := ⟨b', o' + 8, none⟩) zb).trans g3, (hc.cell (p := ⟨b', o' + 9, none⟩) zb).trans g4⟩) | exact ⟨f0, f1, f2, f3, f4, g0, g1, g2, g3, g4⟩)
            (first | (go_at_call 8; refine (stamp_any i0 i1 i2 i3 i4 _).mono ?_; rintro e wn ⟨rfl, hb⟩; replace hc : Below wr.drew.heap.size wr.drew wn := hc.trans (hb.mono hc.size)) | (go_at_call 9; refine (refStamp_any i0 i1 i2 i3 i4 _).mono ?_; rintro e wn ⟨rfl, hb⟩; replace hc : Below wr.drew.heap.size wr.drew wn := hc.trans (hb.mono hc.size)) | (go_at_call 10; refine (before_any i0 i1 i2 i3 i4 j0 j1 j2 j3 j4 _).mono ?_; rintro e wn ⟨rfl, hb⟩; replace hc : Below wr.drew.heap.size wr.drew wn := hc.trans (hb.mono hc.size)) | (go_at_call 11; refine (refBefore_any i0 i1 i2 i3 i4 j0 j1 j2 j3 j4 _).mono ?_; rintro e wn ⟨rfl, hb⟩; replace hc : Below wr.drew.heap.size wr.drew wn := hc.trans (hb.mono hc.size)))
          all_goals
            go_wp2
            go_meet
            exact ⟨rfl, Below.trans (Below.refl wr.heap.size wr).drew hc⟩
        case rest =>
          obtain ⟨rfl, hb⟩ := hcut
          have HB2 := Lib.hid (below_next HB.out (Nat.le_refl _) hb)
          clear hb
          go_wp2_with fail
          exact ⟨⟨t + 1, by omega, by go_num, HB2.out⟩, by simp [intOf]; omega⟩
      · have hlt2 : ¬ (t : Int) < 4 := by omega
        go_wp2_with fail
        refine (awake15_any _).mono ?_
        rintro e w2 ⟨rfl, hb⟩
        have HB2 := Lib.hid (below_next (below_next HBQ.out (Nat.le_refl _) HB.out) (Nat.le_refl _) hb)
        clear hb
        go_wp2
        go_ret
        exact ⟨rfl, HB2.out⟩
end Go.Proofs.Ytlafkkekfkamoaa
