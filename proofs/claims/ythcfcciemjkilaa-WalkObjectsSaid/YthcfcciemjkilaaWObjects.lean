/-
  The walk of WalkObjects. (Made by mkwob-s10.py.)
-/
import Derived.Test.YthcfcciemjkilaaWaw
import Derived.Test.YthcfcciemjkilaaRaw
import Derived.Deep.RegionHeld3
import Derived.Deep.DeepCutAuto
import Derived.Deep.CutBlock
namespace Go.Proofs.Ythcfcciemjkilaa
open Go.RowKit
set_option maxRecDepth 100000
set_option linter.unusedVariables false

/-- The j-th of a slice of increments in block Q. -/
def IAtW (W : World) (Q j : Nat) : Prop := ∃ y0 y1 y2 y3 y4 : Int, W.cell? ⟨Q, j * 5, none⟩ = some (.int .i64 y0) ∧ W.cell? ⟨Q, j * 5 + 1, none⟩ = some (.int .i64 y1) ∧ W.cell? ⟨Q, j * 5 + 2, none⟩ = some (.int .i64 y2) ∧ W.cell? ⟨Q, j * 5 + 3, none⟩ = some (.int .i64 y3) ∧ W.cell? ⟨Q, j * 5 + 4, none⟩ = some (.int .i64 y4)
theorem iatW {L : World} {x0 x1 x2 x3 x4 x5 x6 x7 x8 x9 x10 x11 x12 x13 x14 : Int} : ∀ j, j < 3 → IAtW (L.alloc (.cells #[.int .i64 x0, .int .i64 x1, .int .i64 x2, .int .i64 x3, .int .i64 x4, .int .i64 x5, .int .i64 x6, .int .i64 x7, .int .i64 x8, .int .i64 x9, .int .i64 x10, .int .i64 x11, .int .i64 x12, .int .i64 x13, .int .i64 x14] 27)) L.heap.size j := by
  have hq : Blk (L.alloc (.cells #[.int .i64 x0, .int .i64 x1, .int .i64 x2, .int .i64 x3, .int .i64 x4, .int .i64 x5, .int .i64 x6, .int .i64 x7, .int .i64 x8, .int .i64 x9, .int .i64 x10, .int .i64 x11, .int .i64 x12, .int .i64 x13, .int .i64 x14] 27)) L.heap.size 27 #[.int .i64 x0, .int .i64 x1, .int .i64 x2, .int .i64 x3, .int .i64 x4, .int .i64 x5, .int .i64 x6, .int .i64 x7, .int .i64 x8, .int .i64 x9, .int .i64 x10, .int .i64 x11, .int .i64 x12, .int .i64 x13, .int .i64 x14] := Blk.new _ _ _
  intro j hj
  rcases (by omega : j = 0 ∨ j = 1 ∨ j = 2) with e | e | e <;> subst e
  · exact ⟨_, _, _, _, _, hq.cell 0, hq.cell 1, hq.cell 2, hq.cell 3, hq.cell 4⟩
  · exact ⟨_, _, _, _, _, hq.cell 5, hq.cell 6, hq.cell 7, hq.cell 8, hq.cell 9⟩
  · exact ⟨_, _, _, _, _, hq.cell 10, hq.cell 11, hq.cell 12, hq.cell 13, hq.cell 14⟩

set_option maxHeartbeats 40000000 in
theorem walkWObjects (s : Int) (A A' : Option Addr) (nw c n c' : Nat) (wd0 : Nat → Int) (F0' : Nat → Fr) (i0 i1 i2 i3 i4 : Int) (Al : Option Addr) (nl cl : Nat) (which what at_ by_ aa : Int) (w : World) (hA : Arr w w.heap.size A nw c wd0) (hT : Tab w w.heap.size A' n c' F0') (hu0 : U64w nw wd0) (hL : ListP w w.heap.size Al nl cl)
    (which0 : -9223372036854775808 ≤ which) (which1 : which ≤ 9223372036854775807) (what0 : -9223372036854775808 ≤ what) (what1 : what ≤ 9223372036854775807) (at_0 : -9223372036854775808 ≤ at_) (at_1 : at_ ≤ 9223372036854775807) (by_0 : -9223372036854775808 ≤ by_) (by_1 : by_ ≤ 9223372036854775807) (aa0 : -9223372036854775808 ≤ aa) (aa1 : aa ≤ 9223372036854775807) :
    Calls Try.prog 3 #[.agg #[.int .i64 s, .slice A nw c, .slice A' n c'], .agg #[.int .i64 i0, .int .i64 i1, .int .i64 i2, .int .i64 i3, .int .i64 i4], .slice Al nl cl, .int .i64 which, .int .i64 what, .int .i64 at_, .int .i64 by_, .int .i64 aa] w fun e w' => e = .returned (.bool true) ∧ Below w.heap.size w w' := by
  obtain ⟨U, hU⟩ : ∃ U, U = (w.alloc (.cells #[.int .i64 s, .slice A nw c, .slice A' n c'] 25)).alloc (.cells #[.int .i64 i0, .int .i64 i1, .int .i64 i2, .int .i64 i3, .int .i64 i4] 27) := ⟨_, rfl⟩
  have BX := Lib.hid (show Blk U w.heap.size 25 #[.int .i64 s, .slice A nw c, .slice A' n c'] by rw [hU]; exact (Blk.new _ _ _).alloc _)
  have BI := Lib.hid (show Blk U (w.heap.size + 1) 27 #[.int .i64 i0, .int .i64 i1, .int .i64 i2, .int .i64 i3, .int .i64 i4] by rw [hU]; exact Blk.newAt _ _ _ _ (by simp))
  have hbu : Below w.heap.size w U := by rw [hU]; exact ((Below.refl _ _).alloc (Nat.le_refl _) _).alloc (by simp) _
  have HBU := Lib.hid hbu
  have HU := Lib.hid hU
  have HL := Lib.hid (hL.next hbu)
  have HA0 := Lib.hid hA
  have HT0 := Lib.hid hT
  have HU0 := Lib.hid hu0
  have p0 := BX.out.cell 0
  have p1 := BX.out.cell 1
  have p2 := BX.out.cell 2
  have pz := BX.out.lt
  simp at p0 p1 p2
  clear hL hU hbu hA hT hu0
  go_enter Try.func3, Try.ntmps3
  go_wp2_with fail
  rw [← HU.out]
  refine (small_any s A A' nw c n c' U).mono ?_
  rintro e U1 ⟨rfl, hb⟩
  have BX1 := Lib.hid (BX.out.next hb)
  have BI1 := Lib.hid (BI.out.next hb)
  have HBU1 := Lib.hid (below_next HBU.out (Nat.le_refl _) hb)
  have HL1 := Lib.hid (HL.out.next hb)
  clear hb BX BI HBU HL HU p0 p1 p2 pz
  obtain ⟨sm, hsm, hn⟩ : ∃ b, (decide (nw ≤ 3000) && decide (n ≤ 80)) = b ∧ (b = true → nw ≤ 3000 ∧ n ≤ 80) := ⟨_, rfl, by simp⟩
  rw [hsm]
  clear hsm
  rcases sm with _ | _
  · go_wp2_with (go_at_call 7; refine (awake10_any _).mono ?_; rintro e w6 ⟨rfl, b6⟩; have HB6 := Lib.hid b6; clear b6)
    go_ret
    exact ⟨rfl, below_next HBU1.out (Nat.le_refl _) HB6.out⟩
  · have hnb := hn rfl
    clear hn
    go_wp2_with fail
    refine (deck_any Al nl cl U1 HL1.out).mono ?_
    rintro e U2 ⟨rfl, hd, hb, hz⟩
    have HDK := Lib.hid hd
    have BX2 := Lib.hid (BX1.out.next hb)
    have BI2 := Lib.hid (BI1.out.next hb)
    have HBU2 := Lib.hid (below_next HBU1.out (Nat.le_refl _) hb)
    have zz := BI1.out.lt
    clear hd hb BX1 BI1 HBU1 HL1
    go_wp2_with fail
    refine (space_any U1.heap.size U2 HDK.out).mono ?_
    rintro e U3 ⟨K, m, B, d, gb, d', wd, F, L, rfl, kk0, kk1, m0, m1, hoA, hoT, ⟨hvp, how, hu⟩, ⟨_, I, BI', hBI, hLR, hAll⟩, hG⟩
    have BX3 := Lib.hid (BX2.out.turn hG (by omega))
    have BI3 := Lib.hid (BI2.out.turn hG (by omega))
    have HBU3 := Lib.hid (below_turn HBU2.out hG (by omega))
    have HU64 := Lib.hid hu
    have hmk0 : 0 < m * 2 ^ K := Nat.mul_pos (by omega) (Nat.two_pow_pos K)
    have hmk1 : m * 2 ^ K ≤ 16384 := prod_le (by omega) (by omega)
    obtain ⟨mk, hmk⟩ : ∃ mk, mk = m * 2 ^ K := ⟨_, rfl⟩
    rw [← hmk] at hoA HU64 hmk0 hmk1 ⊢
    obtain ⟨V, hV⟩ : ∃ V, V = U3.alloc (.cells #[.int .i64 K, .slice B mk d, .slice (some ⟨gb, 0, none⟩) m d'] 25) := ⟨_, rfl⟩
    have hbv : Below U3.heap.size U3 V := by rw [hV]; exact (Below.refl _ _).alloc (Nat.le_refl _) _
    obtain ⟨SB, hSB⟩ : ∃ b, b = U3.heap.size := ⟨_, rfl⟩
    have BY := Lib.hid (show Blk V SB 25 #[.int .i64 K, .slice B mk d, .slice (some ⟨gb, 0, none⟩) m d'] by rw [hV, hSB]; exact Blk.new _ _ _)
    have BX4 := Lib.hid (BX3.out.next hbv)
    have BI4 := Lib.hid (BI3.out.next hbv)
    have HBV := Lib.hid (below_next HBU3.out (Nat.le_refl _) hbv)
    have HR4 := Lib.hid (show YV8 V s A nw c A' n c' from ⟨wd0, F0', (HA0.out.below HBV.out).more HBV.out.size, (HT0.out.below HBV.out).more HBV.out.size, HU0.out⟩)
    have HSA := Lib.hid (hoA.arr.next hbv)
    have HST := Lib.hid (hoT.tab.next hbv)
    have HLV := Lib.hid (hLR.below hbv)
    have hI17 := allP_len hAll
    obtain ⟨LA, LC, hLe, hlc⟩ := row_slice hLR.1
    subst hLe
    have HROW := Lib.hid (show ∀ t i, I[t]? = some i → ∃ g cap, Value.slice LA I.length LC = .slice (some ⟨g, 0, none⟩) I.length cap ∧ BI' ≤ g ∧ g < U3.heap.size ∧ g < V.heap.size ∧ V.cell? ⟨g, t * 5, none⟩ = some (.int .i64 i.sq) ∧ V.cell? ⟨g, t * 5 + 1, none⟩ = some (.int .i64 i.bt) ∧ V.cell? ⟨g, t * 5 + 2, none⟩ = some (.int .i64 i.fi) ∧ V.cell? ⟨g, t * 5 + 3, none⟩ = some (.int .i64 i.la) ∧ V.cell? ⟨g, t * 5 + 4, none⟩ = some (.int .i64 i.wo) from fun t i h => lrow_cells HLV.out h)
    obtain ⟨li, hli⟩ : ∃ x, x = I.length := ⟨_, rfl⟩
    have HLI := Lib.hid hli
    rw [← hli] at hI17 hlc ⊢
    obtain ⟨X, hX⟩ : ∃ X, X = V.alloc (.cells #[.int .i64 i0, .int .i64 i1, .int .i64 i2, .int .i64 i3, .int .i64 i4] 27) := ⟨_, rfl⟩
    have hbx : Below V.heap.size V X := by rw [hX]; exact (Below.refl _ _).alloc (Nat.le_refl _) _
    obtain ⟨JB, hJB⟩ : ∃ b, b = V.heap.size := ⟨_, rfl⟩
    have BJ := Lib.hid (show Blk X JB 27 #[.int .i64 i0, .int .i64 i1, .int .i64 i2, .int .i64 i3, .int .i64 i4] by rw [hX, hJB]; exact Blk.new _ _ _)
    have HXX := Lib.hid hX
    have HJB := Lib.hid hJB
    have HVV := Lib.hid hV
    have HSB := Lib.hid hSB
    have HVX := Lib.hid hbx
    have hJV : V.heap.size ≤ JB := Nat.le_of_eq hJB.symm
    clear hV hSB hX hJB hbx hbv BX3 BI3 HBU3 HA0 HT0 HU0 hG BX2 BI2 HBU2 HDK hz hoA hoT hmk hvp how hu hLR hAll hBI hli HLV
    have q0 := BI4.out.cell 0
    have q1 := BI4.out.cell 1
    have q2 := BI4.out.cell 2
    have q3 := BI4.out.cell 3
    have q4 := BI4.out.cell 4
    have qz := BI4.out.lt
    simp at q0 q1 q2 q3 q4
    go_upto_region 4 with fail
    rw [← HVV.out]
    try rw [← HSB.out]
    go_upto_if 50 with fail
    rw [← HXX.out]
    try rw [← HJB.out]
    clear q0 q1 q2 q3 q4 qz
    go_cut [] (fun wx => ∃ j0 j1 j2 j3 j4 : Int, Blk wx JB 27 #[.int .i64 j0, .int .i64 j1, .int .i64 j2, .int .i64 j3, .int .i64 j4] ∧ Below V.heap.size V wx)
    case first =>
      by_cases hl0 : li = 0
      · subst hl0
        go_wp2
        go_meet
        exact ⟨_, _, _, _, _, BJ.out, HVX.out⟩
      · have hmod := Int.emod_nonneg which (show (li : Int) ≠ 0 by omega)
        have hmod2 := Int.emod_lt_of_pos which (show 0 < (li : Int) by omega)
        obtain ⟨z, hz⟩ : ∃ z : Nat, which % (li : Int) = z := ⟨(which % (li : Int)).toNat, by omega⟩
        rw [hz] at hmod hmod2
        have HZ := Lib.hid hz
        have hli0 : 0 < li := by omega
        clear hz hl0
        have hzl : z < I.length := by rw [← HLI.out]; omega
        obtain ⟨g, cap, hE, _, _, hg, x0, x1, x2, x3, x4⟩ := HROW.out z I[z] (List.getElem?_eq_getElem hzl)
        injection hE with hE1 _ hE2
        subst hE1 hE2
        obtain ⟨sq, hsq⟩ : ∃ x, x = I[z].sq := ⟨_, rfl⟩
        obtain ⟨bt, hbt⟩ : ∃ x, x = I[z].bt := ⟨_, rfl⟩
        obtain ⟨fi, hfi⟩ : ∃ x, x = I[z].fi := ⟨_, rfl⟩
        obtain ⟨la, hla⟩ : ∃ x, x = I[z].la := ⟨_, rfl⟩
        obtain ⟨wo, hwo'⟩ : ∃ x, x = I[z].wo := ⟨_, rfl⟩
        rw [← hsq] at x0
        rw [← hbt] at x1
        rw [← hfi] at x2
        rw [← hla] at x3
        rw [← hwo'] at x4
        have x0' := (HVX.out.cell (p := ⟨g, z * 5, none⟩) hg).trans x0
        have x1' := (HVX.out.cell (p := ⟨g, z * 5 + 1, none⟩) hg).trans x1
        have x2' := (HVX.out.cell (p := ⟨g, z * 5 + 2, none⟩) hg).trans x2
        have x3' := (HVX.out.cell (p := ⟨g, z * 5 + 3, none⟩) hg).trans x3
        have x4' := (HVX.out.cell (p := ⟨g, z * 5 + 4, none⟩) hg).trans x4
        have hgx : g < X.heap.size := Nat.lt_of_lt_of_le hg HVX.out.size
        have hz2 : 0 ≤ (z : Int) ∧ (z : Int) < li := by omega
        have hcond : decide (0 < (li : Int)) = true := decide_eq_true (by omega)
        clear hsq hbt hfi hla hwo' HROW x0 x1 x2 x3 x4 hg
        have v0 := BJ.out.cell 0
        have v1 := BJ.out.cell 1
        have v2 := BJ.out.cell 2
        have v3 := BJ.out.cell 3
        have v4 := BJ.out.cell 4
        have vf0 := BJ.out.frozen 0
        have vf1 := BJ.out.frozen 1
        have vf2 := BJ.out.frozen 2
        have vf3 := BJ.out.frozen 3
        have vf4 := BJ.out.frozen 4
        have vz := BJ.out.lt
        simp at v0 v1 v2 v3 v4
        go_wp2_with (go_at_call 10; refine (mod_any which (li : Int) (by omega) (by omega) which0 which1 _).mono ?_; rintro e w' ⟨rfl, rfl⟩; rw [HZ.out])
        go_meet
        exact ⟨_, _, _, _, _, ((((BJ.out.set_ 0 _).set_ 1 _).set_ 2 _).set_ 3 _).set_ 4 _, ((((HVX.out.setCell (p := ⟨JB, 0, none⟩) hJV _).setCell (p := ⟨JB, 1, none⟩) hJV _).setCell (p := ⟨JB, 2, none⟩) hJV _).setCell (p := ⟨JB, 3, none⟩) hJV _).setCell (p := ⟨JB, 4, none⟩) hJV _⟩
    case rest =>
      obtain ⟨Y0, rfl⟩ : ∃ Y, Y = wc := ⟨_, rfl⟩
      obtain ⟨j0, j1, j2, j3, j4, hbj, hby⟩ := hcut
      have BJ1 := Lib.hid hbj
      have HVY := Lib.hid hby
      have BY1 := Lib.hid (BY.out.next hby)
      have BX5 := Lib.hid (BX4.out.next hby)
      have BI5 := Lib.hid (BI4.out.next hby)
      have HR5 := Lib.hid (HR4.out.next hby)
      have HSA5 := Lib.hid (HSA.out.next hby)
      have HST5 := Lib.hid (HST.out.next hby)
      have HBY := Lib.hid (below_next HBV.out (Nat.le_refl _) hby)
      clear hbj hby BY BX4 BI4 HR4 HSA HST HBV HROW HVX HXX HVV HSB HJB BJ hJV
      obtain ⟨X2, hX2⟩ : ∃ X, X = Y0.alloc (.cells #[.int .i64 j0, .int .i64 j1, .int .i64 j2, .int .i64 j3, .int .i64 j4] 27) := ⟨_, rfl⟩
      have hbx2 : Below Y0.heap.size Y0 X2 := by rw [hX2]; exact (Below.refl _ _).alloc (Nat.le_refl _) _
      obtain ⟨TB, hTB⟩ : ∃ b, b = Y0.heap.size := ⟨_, rfl⟩
      have BT := Lib.hid (show Blk X2 TB 27 #[.int .i64 j0, .int .i64 j1, .int .i64 j2, .int .i64 j3, .int .i64 j4] by rw [hX2, hTB]; exact Blk.new _ _ _)
      have hTY : Y0.heap.size ≤ TB := Nat.le_of_eq hTB.symm
      have HX2 := Lib.hid hX2
      have HTB := Lib.hid hTB
      have HYX := Lib.hid hbx2
      clear hX2 hTB hbx2
      have q0 := BJ1.out.cell 0
      have q1 := BJ1.out.cell 1
      have q2 := BJ1.out.cell 2
      have q3 := BJ1.out.cell 3
      have q4 := BJ1.out.cell 4
      have qz := BJ1.out.lt
      simp at q0 q1 q2 q3 q4
      go_upto_region 8 with fail
      rw [← HX2.out]
      try rw [← HTB.out]
      clear q0 q1 q2 q3 q4 qz HX2 HTB
      go_cut [] (fun wx => ∃ x4 : Int, Blk wx TB 27 #[.int .i64 j0, .int .i64 j1, .int .i64 j2, .int .i64 j3, .int .i64 x4] ∧ Below Y0.heap.size Y0 wx)
      case first =>
        obtain ⟨y, hy, y0, y1⟩ : ∃ y, by_ % 3 = y ∧ 0 ≤ y ∧ y < 3 := ⟨_, rfl, by omega, by omega⟩
        have HY := Lib.hid hy
        clear hy
        have q0 := BT.out.cell 0
        have q1 := BT.out.cell 1
        have q2 := BT.out.cell 2
        have q3 := BT.out.cell 3
        have q4 := BT.out.cell 4
        have qf0 := BT.out.frozen 0
        have qf1 := BT.out.frozen 1
        have qf2 := BT.out.frozen 2
        have qf3 := BT.out.frozen 3
        have qf4 := BT.out.frozen 4
        have qz := BT.out.lt
        simp at q0 q1 q2 q3 q4
        go_region_with (go_at_call 10; refine (mod_any by_ 3 (by decide) (by decide) by_0 by_1 _).mono ?_; rintro e w' ⟨rfl, rfl⟩; rw [HY.out])
        all_goals
          go_wp2
          go_meet
          exact ⟨_, BT.out.set_ 4 _, (HYX.out.setCell (p := ⟨TB, 4, none⟩) hTY _).drew⟩
      case rest =>
        obtain ⟨Y1, rfl⟩ : ∃ Y, Y = wc := ⟨_, rfl⟩
        obtain ⟨x4, hbt, hby⟩ := hcut
        have BT6 := Lib.hid hbt
        have BJ6 := Lib.hid (BJ1.out.next hby)
        have BY6 := Lib.hid (BY1.out.next hby)
        have BX6 := Lib.hid (BX5.out.next hby)
        have BI6 := Lib.hid (BI5.out.next hby)
        have HR6 := Lib.hid (HR5.out.next hby)
        have HSA6 := Lib.hid (HSA5.out.next hby)
        have HST6 := Lib.hid (HST5.out.next hby)
        have HB6 := Lib.hid (below_next HBY.out (Nat.le_refl _) hby)
        clear hbt hby BT BJ1 BY1 BX5 BI5 HR5 HSA5 HST5 HBY HYX hTY HVY
        have p0 := BX6.out.cell 0
        have p1 := BX6.out.cell 1
        have p2 := BX6.out.cell 2
        simp at p0 p1 p2
        have q0 := BY6.out.cell 0
        have q1 := BY6.out.cell 1
        have q2 := BY6.out.cell 2
        simp at q0 q1 q2
        have zx : w.heap.size < Y1.heap.size := BX6.out.lt
        have zy : SB < Y1.heap.size := BY6.out.lt
        have hc : Below Y1.heap.size Y1 Y1.drew := (Below.refl _ _).drew
        have v0 := HR6.out.next hc
        have v1 : YV8 Y1.drew K B mk d (some ⟨gb, 0, none⟩) m d' := ⟨_, _, HSA6.out.next hc, HST6.out.next hc, HU64.out⟩
        go_upto_region 9 with fail
        go_cut [76, 77, 78] (fun q l i wx => l = .int .i64 4 ∧ i = .int .i64 0 ∧ ∃ Q, q = .slice (some ⟨Q, 0, none⟩) 4 4 ∧ (∀ j, j < 4 → ZAt8 wx Q j) ∧ Q < wx.heap.size ∧ Below Y1.heap.size Y1 wx)
        case first =>
          go_region_held3 (fun w' => w'.cell? ⟨w.heap.size, 0, none⟩ = some (.int .i64 s) ∧ w'.cell? ⟨w.heap.size, 1, none⟩ = some (.slice A nw c) ∧ w'.cell? ⟨w.heap.size, 2, none⟩ = some (.slice A' n c') ∧ w'.cell? ⟨SB, 0, none⟩ = some (.int .i64 K) ∧ w'.cell? ⟨SB, 1, none⟩ = some (.slice B mk d) ∧ w'.cell? ⟨SB, 2, none⟩ = some (.slice (some ⟨gb, 0, none⟩) m d'))
            (first | (with_reducible exact ⟨(hc.cell (p := ⟨_, 0, none⟩) zx).trans p0, (hc.cell (p := ⟨_, 1, none⟩) zx).trans p1, (hc.cell (p := ⟨_, 2, none⟩) zx).trans p2, (hc.cell (p := ⟨_, 0, none⟩) zy).trans q0, (hc.cell (p := ⟨_, 1, none⟩) zy).trans q1, (hc.cell (p := ⟨_, 2, none⟩) zy).trans q2⟩) | (with_reducible exact ⟨((hc.alloc hc.size _).cell (p := ⟨_, 0, none⟩) zx).trans p0, ((hc.alloc hc.size _).cell (p := ⟨_, 1, none⟩) zx).trans p1, ((hc.alloc hc.size _).cell (p := ⟨_, 2, none⟩) zx).trans p2, ((hc.alloc hc.size _).cell (p := ⟨_, 0, none⟩) zy).trans q0, ((hc.alloc hc.size _).cell (p := ⟨_, 1, none⟩) zy).trans q1, ((hc.alloc hc.size _).cell (p := ⟨_, 2, none⟩) zy).trans q2⟩) | go_keep)
            (first
              | (go_at_call 11; (with_reducible show Calls _ _ #[_, .int .i64 what, _, _] _ _); refine (spoilt8_any K B (some ⟨gb, 0, none⟩) mk d m d' wd F what at_ by_ _ (HSA6.out.next hc) (HST6.out.next hc) (by omega) (by omega) (by omega) hmk0 what0 what1 at_0 at_1 by_0 by_1).mono ?_; rintro e wq1 ⟨k1, nw1, c1', g1, c1'', A1, wd1, F1, rfl, lo1, hi1, ho1, ht1, hb1, hP1⟩; have hc := below_next hc (Nat.le_refl _) hb1; have v2 : YV8 wq1 k1 A1 nw1 c1' (some ⟨g1, 0, none⟩) m c1'' := ⟨_, _, ho1.arr, ht1.tab, hP1 HU64.out⟩; have v0 := v0.next hb1; have v1 := v1.next hb1; (try have v3 := v3.next hb1))
              | (go_at_call 11; (with_reducible show Calls _ _ #[_, .int .i64 3, _, _] _ _); refine (spoilt8_any K B (some ⟨gb, 0, none⟩) mk d m d' wd F 3 at_ by_ _ (HSA6.out.next hc) (HST6.out.next hc) (by omega) (by omega) (by omega) hmk0 (by decide) (by decide) at_0 at_1 by_0 by_1).mono ?_; rintro e wq2 ⟨k2, nw2, c2', g2, c2'', A2, wd2, F2, rfl, lo2, hi2, ho2, ht2, hb2, hP2⟩; have hc := below_next hc (Nat.le_refl _) hb2; have v3 : YV8 wq2 k2 A2 nw2 c2' (some ⟨g2, 0, none⟩) m c2'' := ⟨_, _, ho2.arr, ht2.tab, hP2 HU64.out⟩; have v0 := v0.next hb2; have v1 := v1.next hb2; (try have v2 := v2.next hb2)))
          all_goals
            have Z := Lib.hid (zat8_4 hc v1 v0 v2 v3 ⟨by omega, by omega⟩ ⟨by omega, by omega⟩ ⟨by omega, by omega⟩ ⟨by omega, by omega⟩)
            clear hc v0 v1 v2 v3
            go_wp2
            go_meet
            exact ⟨rfl, rfl, _, rfl, Z.out⟩
        case rest =>
          obtain ⟨C0, rfl⟩ : ∃ C0, C0 = wc := ⟨_, rfl⟩
          obtain ⟨rfl, rfl, Q, rfl, hZA, hQ, hB⟩ := hcut
          have HZA := Lib.hid hZA
          have HCV := Lib.hid hB
          clear hZA hB hc v0 v1 p0 p1 p2 q0 q1 q2 zx zy HR6 BX6 BY6 HSA6 HST6 hmk0 hnb
          go_wp2_with fail
          go_loopw [78] (fun i wr => ∃ j : Nat, j ≤ 4 ∧ i = .int .i64 j ∧ Below C0.heap.size C0 wr) (fun i _ => 4 - (intOf i).toNat)
          case atStart => exact ⟨0, Nat.zero_le _, rfl, Below.refl _ _⟩
          case round =>
            obtain ⟨R, rfl⟩ : ∃ R, R = wr := ⟨_, rfl⟩
            obtain ⟨j, hj, rfl, hb⟩ := hrel
            by_cases hlt : j < 4
            · obtain ⟨s, A, nw, c, A', n, c', hbw, hbn, x0, x1, x2, hv⟩ := HZA.out j hlt
              have x0' := (hb.cell (p := ⟨Q, j * 3, none⟩) hQ).trans x0
              have x1' := (hb.cell (p := ⟨Q, j * 3 + 1, none⟩) hQ).trans x1
              have x2' := (hb.cell (p := ⟨Q, j * 3 + 2, none⟩) hQ).trans x2
              have zQ : Q < R.heap.size := Nat.lt_of_lt_of_le hQ hb.size
              obtain ⟨wdx, Fx, hva, hvt, hvu⟩ := hv.next hb
              have HUX := Lib.hid hvu
              have hj2 : 0 ≤ (j : Int) ∧ (j : Int) < 4 := by omega
              obtain ⟨P0, hP0⟩ : ∃ P, P = R.alloc (.cells #[.int .i64 s, .slice A nw c, .slice A' n c'] 25) := ⟨_, rfl⟩
              have BP := Lib.hid (show Blk P0 R.heap.size 25 #[.int .i64 s, .slice A nw c, .slice A' n c'] by rw [hP0]; exact Blk.new _ _ _)
              have hbp0 : Below R.heap.size R P0 := by rw [hP0]; exact (Below.refl _ _).alloc (Nat.le_refl _) _
              have hXP0 : Below Y1.heap.size Y1 P0 := below_next (below_next HCV.out (Nat.le_refl _) hb) (Nat.le_refl _) hbp0
              have HP0 := Lib.hid hP0
              have HVA := Lib.hid (hva.next hbp0)
              have HVT := Lib.hid (hvt.next hbp0)
              have HBP0 := Lib.hid (below_next hb (Nat.le_refl _) hbp0)
              have BIP := BI6.out.next hXP0
              have BJP := BJ6.out.next hXP0
              have BTP := BT6.out.next hXP0
              have u0 := BIP.cell 0
              have u1 := BIP.cell 1
              have u2 := BIP.cell 2
              have u3 := BIP.cell 3
              have u4 := BIP.cell 4
              have uz := BIP.lt
              simp at u0 u1 u2 u3 u4
              have v0 := BJP.cell 0
              have v1 := BJP.cell 1
              have v2 := BJP.cell 2
              have v3 := BJP.cell 3
              have v4 := BJP.cell 4
              have vz := BJP.lt
              simp at v0 v1 v2 v3 v4
              have t0 := BTP.cell 0
              have t1 := BTP.cell 1
              have t2 := BTP.cell 2
              have t3 := BTP.cell 3
              have t4 := BTP.cell 4
              have tz := BTP.lt
              simp at t0 t1 t2 t3 t4
              clear hP0 hva hvt hvu hv x0 x1 x2 hbp0 hb hXP0 BIP BJP BTP
              go_upto_region 12 with fail
              rw [← HP0.out]
              clear x0' x1' x2' zQ HP0
              obtain ⟨P, hP⟩ : ∃ P, P = P0.alloc (.cells #[.int .i64 i0, .int .i64 i1, .int .i64 i2, .int .i64 i3, .int .i64 i4, .int .i64 j0, .int .i64 j1, .int .i64 j2, .int .i64 j3, .int .i64 j4, .int .i64 j0, .int .i64 j1, .int .i64 j2, .int .i64 j3, .int .i64 x4] 27) := ⟨_, rfl⟩
              obtain ⟨Q2, hQ2⟩ : ∃ q, q = P0.heap.size := ⟨_, rfl⟩
              have hbP : Below P0.heap.size P0 P := by rw [hP]; exact (Below.refl _ _).alloc (Nat.le_refl _) _
              have HROW := Lib.hid (show ∀ j, j < 3 → IAtW P Q2 j by rw [hP, hQ2]; exact iatW)
              have hQ2z : Q2 < P.heap.size := by rw [hP, hQ2]; simp
              have BXP := Lib.hid (BP.out.next hbP)
              have HAP := Lib.hid (HVA.out.next hbP)
              have HTP := Lib.hid (HVT.out.next hbP)
              have HBP := Lib.hid (below_next HBP0.out (Nat.le_refl _) hbP)
              have HP := Lib.hid hP
              have HQ2 := Lib.hid hQ2
              clear hP hQ2 hbP HVA HVT BP HBP0
              go_upto_region 13 with fail
              rw [← HP.out]
              try rw [← HQ2.out]
              clear HP HQ2 u0 u1 u2 u3 u4 uz v0 v1 v2 v3 v4 vz t0 t1 t2 t3 t4 tz
              go_loopw [87] (fun i wr2 => ∃ l : Nat, l ≤ 3 ∧ i = .int .i64 l ∧ Below P.heap.size P wr2) (fun i _ => 3 - (intOf i).toNat)
              case atStart => exact ⟨0, Nat.zero_le _, rfl, Below.refl _ _⟩
              case round =>
                obtain ⟨W0, rfl⟩ : ∃ W0, W0 = wr := ⟨_, rfl⟩
                obtain ⟨l, hl, rfl, hb⟩ := hrel
                by_cases hll : l < 3
                · as_aux_lemma =>
                  obtain ⟨y0, y1, y2, y3, y4, x0, x1, x2, x3, x4⟩ := HROW.out l hll
                  have x0' := (hb.cell (p := ⟨Q2, l * 5, none⟩) hQ2z).trans x0
                  have x1' := (hb.cell (p := ⟨Q2, l * 5 + 1, none⟩) hQ2z).trans x1
                  have x2' := (hb.cell (p := ⟨Q2, l * 5 + 2, none⟩) hQ2z).trans x2
                  have x3' := (hb.cell (p := ⟨Q2, l * 5 + 3, none⟩) hQ2z).trans x3
                  have x4' := (hb.cell (p := ⟨Q2, l * 5 + 4, none⟩) hQ2z).trans x4
                  have zq2 : Q2 < W0.heap.size := Nat.lt_of_lt_of_le hQ2z hb.size
                  have hl2 : 0 ≤ (l : Int) ∧ (l : Int) < 3 := by omega
                  obtain ⟨X0, hW1⟩ : ∃ W, W = W0.alloc (.cells #[.int .i64 y0, .int .i64 y1, .int .i64 y2, .int .i64 y3, .int .i64 y4] 27) := ⟨_, rfl⟩
                  have hbw1 : Below P.heap.size P X0 := by rw [hW1]; exact below_next hb (Nat.le_refl _) ((Below.refl _ _).alloc (Nat.le_refl _) _)
                  have BN0 := Lib.hid (show Blk X0 W0.heap.size 27 #[.int .i64 y0, .int .i64 y1, .int .i64 y2, .int .i64 y3, .int .i64 y4] by rw [hW1]; exact Blk.new _ _ _)
                  have BS0 := Lib.hid (BXP.out.next hbw1)
                  have HA0 := Lib.hid (HAP.out.next hbw1)
                  have HT0 := Lib.hid (HTP.out.next hbw1)
                  have M0 := Lib.hid hbw1
                  have HW1 := Lib.hid hW1
                  obtain ⟨ol, oe, hox⟩ := objsX_ex s nw wdx n Fx y0 y1 y2 y3 y4
                  have HOX := Lib.hid hox
                  have holen := objsX_small hox
                  clear hW1 hbw1 hb x0 x1 x2 x3 x4 hox
                  go_upto_region 15 with fail
                  rw [← HW1.out]
                  clear x0' x1' x2' x3' x4' zq2 HW1
                  have p0 := BS0.out.cell 0
                  have p1 := BS0.out.cell 1
                  have p2 := BS0.out.cell 2
                  have pz := BS0.out.lt
                  simp at p0 p1 p2
                  have q0 := BN0.out.cell 0
                  have q1 := BN0.out.cell 1
                  have q2 := BN0.out.cell 2
                  have q3 := BN0.out.cell 3
                  have q4 := BN0.out.cell 4
                  have qz := BN0.out.lt
                  simp at q0 q1 q2 q3 q4
                  go_wp2_with fail
                  refine (objs10_of (s := s) A A' c c' X0 HA0.out HT0.out HUX.out HOX.out).mono ?_
                  rintro e X1 ⟨A5, c5, rfl, hn5, hb⟩
                  have BS1 := Lib.hid (BS0.out.next hb)
                  have BN1 := Lib.hid (BN0.out.next hb)
                  have HA1 := Lib.hid (HA0.out.next hb)
                  have HT1 := Lib.hid (HT0.out.next hb)
                  have M1 := Lib.hid (below_next M0.out (Nat.le_refl _) hb)
                  have HN5 := Lib.hid hn5
                  clear hb hn5 p0 p1 p2 pz q0 q1 q2 q3 q4 qz
                  have p0 := BS1.out.cell 0
                  have p1 := BS1.out.cell 1
                  have p2 := BS1.out.cell 2
                  have pz := BS1.out.lt
                  simp at p0 p1 p2
                  have q0 := BN1.out.cell 0
                  have q1 := BN1.out.cell 1
                  have q2 := BN1.out.cell 2
                  have q3 := BN1.out.cell 3
                  have q4 := BN1.out.cell 4
                  have qz := BN1.out.lt
                  simp at q0 q1 q2 q3 q4
                  go_wp2_with fail
                  refine (refObjs_of (s := s) A A' c c' X1 HA1.out HT1.out HUX.out HOX.out).mono ?_
                  rintro e X2 ⟨A6, c6, rfl, hn6, hb⟩
                  have BS2 := Lib.hid (BS1.out.next hb)
                  have BN2 := Lib.hid (BN1.out.next hb)
                  have HA2 := Lib.hid (HA1.out.next hb)
                  have HT2 := Lib.hid (HT1.out.next hb)
                  have M2 := Lib.hid (below_next M1.out (Nat.le_refl _) hb)
                  have HN6 := Lib.hid hn6
                  have HN5' := Lib.hid (HN5.out.next hb)
                  clear hb hn6 p0 p1 p2 pz q0 q1 q2 q3 q4 qz
                  obtain ⟨ln, hln⟩ : ∃ x, x = liveN ol oe := ⟨_, rfl⟩
                  obtain ⟨lw, hlw⟩ : ∃ x, x = liveW y4 oe := ⟨_, rfl⟩
                  have CL := live10_of (s := s) A A' c c' X2 HA2.out HT2.out HUX.out HOX.out
                  rw [← hln, ← hlw] at CL
                  have p0 := BS2.out.cell 0
                  have p1 := BS2.out.cell 1
                  have p2 := BS2.out.cell 2
                  have pz := BS2.out.lt
                  simp at p0 p1 p2
                  have q0 := BN2.out.cell 0
                  have q1 := BN2.out.cell 1
                  have q2 := BN2.out.cell 2
                  have q3 := BN2.out.cell 3
                  have q4 := BN2.out.cell 4
                  have qz := BN2.out.lt
                  simp at q0 q1 q2 q3 q4
                  go_wp2_with fail
                  refine (CL).mono ?_
                  clear CL
                  rintro e X3 ⟨rfl, hb⟩
                  have BS3 := Lib.hid (BS2.out.next hb)
                  have BN3 := Lib.hid (BN2.out.next hb)
                  have HA3 := Lib.hid (HA2.out.next hb)
                  have HT3 := Lib.hid (HT2.out.next hb)
                  have M3 := Lib.hid (below_next M2.out (Nat.le_refl _) hb)
                  have HN7 := Lib.hid (HN5'.out.next hb)
                  have HN8 := Lib.hid (HN6.out.next hb)
                  have CM := refLive_of (s := s) A A' c c' X3 HA3.out HT3.out HUX.out HOX.out
                  rw [← hln, ← hlw] at CM
                  clear hb hln hlw p0 p1 p2 pz q0 q1 q2 q3 q4 qz
                  have p0 := BS3.out.cell 0
                  have p1 := BS3.out.cell 1
                  have p2 := BS3.out.cell 2
                  have pz := BS3.out.lt
                  simp at p0 p1 p2
                  have q0 := BN3.out.cell 0
                  have q1 := BN3.out.cell 1
                  have q2 := BN3.out.cell 2
                  have q3 := BN3.out.cell 3
                  have q4 := BN3.out.cell 4
                  have qz := BN3.out.lt
                  simp at q0 q1 q2 q3 q4
                  go_wp2_with fail
                  refine (CM).mono ?_
                  clear CM
                  rintro e X4 ⟨rfl, hb⟩
                  have BS4 := Lib.hid (BS3.out.next hb)
                  have BN4 := Lib.hid (BN3.out.next hb)
                  have HA4 := Lib.hid (HA3.out.next hb)
                  have HT4 := Lib.hid (HT3.out.next hb)
                  have M4 := Lib.hid (below_next M3.out (Nat.le_refl _) hb)
                  have CS := sameInts_yes A5 A6 ol.length c5 c6 (numF ol) X4 (HN7.out.next hb) (HN8.out.next hb) (by omega)
                  clear hb p0 p1 p2 pz q0 q1 q2 q3 q4 qz
                  go_wp2_with fail
                  refine CS.mono ?_
                  clear CS
                  rintro e X5 ⟨rfl, hb⟩
                  have BS5 := Lib.hid (BS4.out.next hb)
                  have BN5 := Lib.hid (BN4.out.next hb)
                  have HA5 := Lib.hid (HA4.out.next hb)
                  have HT5 := Lib.hid (HT4.out.next hb)
                  have M5 := Lib.hid (below_next M4.out (Nat.le_refl _) hb)
                  clear hb HN5 HN6 HN5' HN7 HN8
                  obtain ⟨z, hz, hz0, hz1⟩ : ∃ z, aa % ((nw : Int) + 1) = z ∧ 0 ≤ z ∧ z < (nw : Int) + 1 := ⟨_, rfl, Int.emod_nonneg _ (by omega), Int.emod_lt_of_pos _ (by omega)⟩
                  have HZ := Lib.hid hz
                  clear hz
                  have wz : IntKind.i64.wrap ((nw : Int) + 1) = nw + 1 := IntWalk.i64_in _ (by omega)
                  obtain ⟨G, hG⟩ : ∃ G, G = X5.alloc (.cells #[.int .i64 aa, .int .i64 z] 3) := ⟨_, rfl⟩
                  have hbG : Below X5.heap.size X5 G := by rw [hG]; exact (Below.refl _ _).alloc (Nat.le_refl _) _
                  obtain ⟨NB, hNB⟩ : ∃ b, b = X5.heap.size := ⟨_, rfl⟩
                  have BNB : Blk G NB 3 #[.int .i64 aa, .int .i64 z] := by rw [hG, hNB]; exact Blk.new _ _ _
                  have HAT := Lib.hid (show ∀ h, h < 2 → ∃ kk : Int, G.cell? ⟨NB, h, none⟩ = some (.int .i64 kk) from fun h hh => by
                    rcases (by omega : h = 0 ∨ h = 1) with e | e <;> subst e
                    · exact ⟨_, BNB.cell 0⟩
                    · exact ⟨_, BNB.cell 1⟩)
                  have zN : NB < G.heap.size := BNB.lt
                  have BSG := Lib.hid (BS5.out.next hbG)
                  have BNG := Lib.hid (BN5.out.next hbG)
                  have HAG := Lib.hid (HA5.out.next hbG)
                  have HTG := Lib.hid (HT5.out.next hbG)
                  have MG := Lib.hid (below_next M5.out (Nat.le_refl _) hbG)
                  have HGG := Lib.hid hG
                  have HNB := Lib.hid hNB
                  clear hG hNB hbG BNB BS0 BS1 BS2 BS3 BS4 BN0 BN1 BN2 BN3 BN4 HA0 HA1 HA2 HA3 HA4 HT0 HT1 HT2 HT3 HT4 M0 M1 M2 M3 M4
                  have p0 := BS5.out.cell 0
                  have p1 := BS5.out.cell 1
                  have p2 := BS5.out.cell 2
                  have pz := BS5.out.lt
                  simp at p0 p1 p2
                  go_upto_region 22 with (go_at_call 10; refine (mod_any aa ((nw : Int) + 1) (by omega) (by omega) aa0 aa1 _).mono ?_; rintro e w' ⟨rfl, rfl⟩; rw [HZ.out])
                  rw [← HGG.out]
                  try rw [← HNB.out]
                  clear HGG HNB p0 p1 p2 pz
                  go_loopw [150] (fun i wr3 => ∃ h : Nat, h ≤ 2 ∧ i = .int .i64 h ∧ Below G.heap.size G wr3) (fun i _ => 2 - (intOf i).toNat)
                  case atStart => exact ⟨0, Nat.zero_le _, rfl, Below.refl _ _⟩
                  case round =>
                    obtain ⟨G0, rfl⟩ : ∃ X0, X0 = wr := ⟨_, rfl⟩
                    obtain ⟨h, hh, rfl, hb⟩ := hrel
                    by_cases hhl : h < 2
                    · obtain ⟨kk, t0⟩ := HAT.out h hhl
                      have t0' := (hb.cell (p := ⟨NB, h, none⟩) zN).trans t0
                      have zN2 : NB < G0.heap.size := Nat.lt_of_lt_of_le zN hb.size
                      have hh2 : 0 ≤ (h : Int) ∧ (h : Int) < 2 := by omega
                      have BSH := Lib.hid (BSG.out.next hb)
                      have BNH := Lib.hid (BNG.out.next hb)
                      have HAH := Lib.hid (HAG.out.next hb)
                      have HTH := Lib.hid (HTG.out.next hb)
                      have MH := Lib.hid hb
                      obtain ⟨bv, hbv⟩ : ∃ b, b = memB ol kk := ⟨_, rfl⟩
                      have CH := Lib.hid (show ∀ W', Below G0.heap.size G0 W' → Calls Try.prog 17 #[.agg #[.int .i64 s, .slice A nw c, .slice A' n c'], .agg #[.int .i64 y0, .int .i64 y1, .int .i64 y2, .int .i64 y3, .int .i64 y4], .int .i64 kk] W' (fun e w' => e = .returned (.bool bv) ∧ Below W'.heap.size W' w') from fun W' hW' => by rw [hbv]; exact holds10_of (s := s) A A' c c' kk W' (HAH.out.next hW') (HTH.out.next hW') HUX.out HOX.out)
                      have CR := Lib.hid (show ∀ W', Below G0.heap.size G0 W' → Calls Try.prog 18 #[.agg #[.int .i64 s, .slice A nw c, .slice A' n c'], .agg #[.int .i64 y0, .int .i64 y1, .int .i64 y2, .int .i64 y3, .int .i64 y4], .int .i64 kk] W' (fun e w' => e = .returned (.bool bv) ∧ Below W'.heap.size W' w') from fun W' hW' => by rw [hbv]; exact refHolds_of (s := s) A A' c c' kk W' (HAH.out.next hW') (HTH.out.next hW') HUX.out HOX.out)
                      have hbb : (bv != bv) = false := by simp
                      clear hb t0 hbv
                      go_upto_region 24 with fail
                      have p0 := BSH.out.cell 0
                      have p1 := BSH.out.cell 1
                      have p2 := BSH.out.cell 2
                      simp at p0 p1 p2
                      have q0 := BNH.out.cell 0
                      have q1 := BNH.out.cell 1
                      have q2 := BNH.out.cell 2
                      have q3 := BNH.out.cell 3
                      have q4 := BNH.out.cell 4
                      simp at q0 q1 q2 q3 q4
                      have zbx : R.heap.size < G0.heap.size := BSH.out.lt
                      have zby : W0.heap.size < G0.heap.size := BNH.out.lt
                      have hc : Below G0.heap.size G0 G0.drew := (Below.refl _ _).drew
                      clear t0' zN2
                      go_region_held3 (fun w' => w'.cell? ⟨R.heap.size, 0, none⟩ = some (.int .i64 s) ∧ w'.cell? ⟨R.heap.size, 1, none⟩ = some (.slice A nw c) ∧ w'.cell? ⟨R.heap.size, 2, none⟩ = some (.slice A' n c') ∧ w'.cell? ⟨W0.heap.size, 0, none⟩ = some (.int .i64 y0) ∧ w'.cell? ⟨W0.heap.size, 1, none⟩ = some (.int .i64 y1) ∧ w'.cell? ⟨W0.heap.size, 2, none⟩ = some (.int .i64 y2) ∧ w'.cell? ⟨W0.heap.size, 3, none⟩ = some (.int .i64 y3) ∧ w'.cell? ⟨W0.heap.size, 4, none⟩ = some (.int .i64 y4))
                        (first | (with_reducible exact ⟨(hc.cell (p := ⟨_, 0, none⟩) zbx).trans p0, (hc.cell (p := ⟨_, 1, none⟩) zbx).trans p1, (hc.cell (p := ⟨_, 2, none⟩) zbx).trans p2, (hc.cell (p := ⟨_, 0, none⟩) zby).trans q0, (hc.cell (p := ⟨_, 1, none⟩) zby).trans q1, (hc.cell (p := ⟨_, 2, none⟩) zby).trans q2, (hc.cell (p := ⟨_, 3, none⟩) zby).trans q3, (hc.cell (p := ⟨_, 4, none⟩) zby).trans q4⟩) | go_keep)
                        (first
                          | (go_at_call 17; refine (CH.out _ hc).mono ?_; rintro e wq ⟨rfl, hb⟩; have hc := below_next hc (Nat.le_refl _) hb)
                          | (go_at_call 18; refine (CR.out _ hc).mono ?_; rintro e wq ⟨rfl, hb⟩; have hc := below_next hc (Nat.le_refl _) hb))
                      all_goals
                        have K2 := Lib.hid (below_next MH.out (Nat.le_refl _) hc)
                        clear hc
                        go_wp2
                        exact ⟨⟨h + 1, by omega, by go_num, K2.out⟩, by simp [intOf]; omega⟩
                    · obtain rfl : h = 2 := by omega
                      have K3 := Lib.hid (below_next MG.out (Nat.le_refl _) hb)
                      clear hb
                      go_wp2_with fail
                      exact ⟨⟨l + 1, by omega, by go_num, K3.out⟩, by simp [intOf]; omega⟩
                · obtain rfl : l = 3 := by omega
                  have K0 := Lib.hid (below_next HBP.out (Nat.le_refl _) hb)
                  clear hb
                  go_wp2_with fail
                  exact ⟨⟨j + 1, by omega, by go_num, K0.out⟩, by simp [intOf]; omega⟩
            · obtain rfl : j = 4 := by omega
              have HB8 := Lib.hid (below_next HB6.out (Nat.le_refl _) (below_next HCV.out (Nat.le_refl _) hb))
              clear hb
              go_wp2_with (go_at_call 7; refine (awake10_any _).mono ?_; rintro e w9 ⟨rfl, hb9⟩)
              go_ret
              exact ⟨rfl, below_next HB8.out (Nat.le_refl _) hb9⟩
end Go.Proofs.Ythcfcciemjkilaa
