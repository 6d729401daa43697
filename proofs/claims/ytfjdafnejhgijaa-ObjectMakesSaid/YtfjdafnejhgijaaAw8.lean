/-
  What Init leaves is an object; the laws' example of layer 8.
-/
import Derived.Test.YtfjdafnejhgijaaOin
import Derived.Test.YtfjdafnejhgijaaMAw5
namespace Go.Proofs.Ytfjdafnejhgijaa
open Go.RowKit
set_option maxRecDepth 100000
set_option linter.unusedVariables false

section
variable {K nw n : Nat} {wd : Nat → Int} {F : Nat → Fr} {a lv : Int}
theorem iniW_head {T : Nat} (h : stpE K nw wd n F a T = 0) : ∀ t, t ≤ T → iniW K nw wd n F a lv t a.toNat = lv
  | 0, _ => by
    show (if a.toNat = a.toNat then lv else wd a.toNat) = lv
    rw [if_pos rfl]
  | t + 1, ht => by
    show (if a.toNat = (stpV K nw wd n F a ((t + 1 : Nat) : Int)).toNat then 0 else iniW K nw wd n F a lv t a.toNat) = lv
    rw [if_neg, iniW_head h t (by omega)]
    intro e
    have h0 := stp_less h (j := 0) (by omega) (by omega)
    have h1 := stp_less h (j := ((t + 1 : Nat) : Int)) (by omega) (by omega)
    have e0 := stp_self h0
    obtain ⟨P, hP, _⟩ := stp_nat h1
    obtain ⟨Q, hQ, _⟩ := stp_nat h0
    have := stp_inj h0 h1 (by omega)
    omega
theorem iniW_fld {T : Nat} (h : stpE K nw wd n F a T = 0) : ∀ t, t ≤ T → ∀ k : Nat, 1 ≤ k → k ≤ t → iniW K nw wd n F a lv t (stpV K nw wd n F a k).toNat = 0
  | 0, _, k, h1, h2 => by omega
  | t + 1, ht, k, h1, h2 => by
    show (if (stpV K nw wd n F a k).toNat = (stpV K nw wd n F a ((t + 1 : Nat) : Int)).toNat then 0 else iniW K nw wd n F a lv t (stpV K nw wd n F a k).toNat) = 0
    by_cases e : k = t + 1
    · subst e; rw [if_pos rfl]
    · by_cases e2 : (stpV K nw wd n F a k).toNat = (stpV K nw wd n F a ((t + 1 : Nat) : Int)).toNat
      · rw [if_pos e2]
      · rw [if_neg e2]
        exact iniW_fld h t (by omega) k h1 (by omega)
/-- What Init leaves is an object of the shape asked for. -/
theorem ini_shape {R D : Nat} (hv : ValidP K nw wd n F) (hR : R ≤ 15) (hD : D ≤ 32) (h : stpE K nw wd n F a ((R + D : Nat) : Int) = 0) :
    shpE K nw (iniW K nw wd n F a (Hd.liveV R D) (R + D)) n F a = 0 ∧ shpR K nw (iniW K nw wd n F a (Hd.liveV R D) (R + D)) n F a = R ∧ shpD K nw (iniW K nw wd n F a (Hd.liveV R D) (R + D)) n F a = D := by
  have hw := stp_words hv (iniW_valid (lv := Hd.liveV R D) hv (R + D) h) a
  have hh := iniW_head (lv := Hd.liveV R D) h (R + D) (Nat.le_refl _)
  obtain ⟨d1, d2, d3, d4, d5⟩ := Hd.dec_live (r := R) (d := D) (by omega)
  have h0 : stpE K nw (iniW K nw wd n F a (Hd.liveV R D) (R + D)) n F a 0 = 0 := by rw [(hw 0).1]; exact stp_less h (by omega) (by omega)
  have e := shp_ok (s := K) (nw := nw) (wd := iniW K nw wd n F a (Hd.liveV R D) (R + D)) (n := n) (F := F) (a := a) h0 (by rw [hh]; exact d5) (by rw [hh]; exact d1) (by rw [hh, d3, d4, (hw _).1, ← Int.natCast_add]; exact h)
  rw [hh, d3, d4] at e
  exact e
end

def Z8 : Nat → Int := fun _ => 0
theorem pf_on : adB 32 22 = true ∧ PartsA 3 22 2 6 ∧ (Pf 2).ow ≠ -1 := ⟨by decide, ⟨by decide, by decide, by decide, by decide⟩, by decide⟩
theorem pf_valid8 : ValidP (3 : Nat) 32 Z8 4 Pf := pf_valid
theorem pf_stp (k : Nat) (h : k ≤ 3) : stpE (3 : Nat) 32 Z8 4 Pf 22 k = 0 ∧ stpV (3 : Nat) 32 Z8 4 Pf 22 k = addrP Pf 3 (2 : Nat) (6 + k) :=
  stp_ok (K := 3) (x := k) (m := 2) (validB_yes pf_valid8) pf_on.1 pf_on.2.1 pf_on.2.2 (chL_length pf_len (by decide)) (by show 6 + k < 16; omega)
/-- The example's words behind Init. -/
noncomputable def W8 : Nat → Int := iniW (3 : Nat) 32 Z8 4 Pf 22 (Hd.liveV (1 : Nat) (2 : Nat)) (1 + 2)
theorem w8_valid : ValidP (3 : Nat) 32 W8 4 Pf := iniW_valid pf_valid8 3 (pf_stp 3 (by decide)).1
theorem w8_u64 : U64w 32 W8 := iniW_u64 (fun _ _ => ⟨by show (0 : Int) ≤ 0; decide, by show (0 : Int) < 18446744073709551616; decide⟩) (by decide) (by decide) _
theorem w8_shape : shpE (3 : Nat) 32 W8 4 Pf 22 = 0 ∧ shpR (3 : Nat) 32 W8 4 Pf 22 = 1 ∧ shpD (3 : Nat) 32 W8 4 Pf 22 = 2 :=
  ini_shape (R := 1) (D := 2) pf_valid8 (by decide) (by decide) (pf_stp 3 (by decide)).1
theorem w8_ini : iniE (3 : Nat) 32 Z8 4 Pf 22 1 2 = 0 := by
  rw [ini_in (validB_yes pf_valid8) (by decide)]
  exact (pf_stp 3 (by decide)).1
theorem w8_slots : sltL (3 : Nat) 32 W8 4 Pf 22 = [23] := by
  unfold sltL
  rw [w8_shape.2.1]
  show [(stpV (3 : Nat) 32 W8 4 Pf 22 (1 + ((0 : Nat) : Int))).toNat] = [23]
  rw [(stp_words pf_valid8 w8_valid 22 _).2]
  rw [show (1 + ((0 : Nat) : Int)) = ((1 : Nat) : Int) by decide, (pf_stp 1 (by decide)).2]
  decide
theorem w8_plc : plcE (3 : Nat) 32 W8 4 Pf 22 1 false = 0 ∧ plcV (3 : Nat) 32 W8 4 Pf 22 1 false = 1 := by
  obtain ⟨h1, h2, h3⟩ := w8_shape
  obtain ⟨e1, e2⟩ := plc_ok (i := 1) (t := false) h1 (by decide) (by unfold fldN; rw [h3]; decide)
  refine ⟨e1, ?_⟩
  rw [e2]
  unfold fldK
  rw [h2, (stp_words pf_valid8 w8_valid 22 _).2]
  show stpV (3 : Nat) 32 Z8 4 Pf 22 ((3 : Nat) : Int) = 1
  rw [(pf_stp 3 (by decide)).2]
  decide
theorem w8_set : setW (3 : Nat) 32 W8 4 Pf 22 1 false 9 1 = 9 := by
  unfold setW
  rw [w8_plc.2]
  rfl

set_option maxHeartbeats 4000000 in
theorem awake8_any (w : World) : Calls Try.prog 10 #[] w fun e w' => e = .returned (.bool true) ∧ Below w.heap.size w w' := by
  go_enter Try.func10, Try.ntmps10
  go_upto_region 2 with (go_at_call 34; refine (refNew_yes 3 4 w (by decide) (by decide) (by decide) (by decide)).mono ?_; rintro e w1 ⟨A, A', rfl, ha, ht, hb1⟩)
  obtain ⟨g, rfl, g1, g2, _⟩ := ht.spot 0 (by decide) frFree
  obtain ⟨V, hV⟩ : ∃ V, V = w1.alloc (.cells #[.int .i64 3, .slice A 32 32, .slice (some ⟨g, 0, none⟩) 4 4] 25) := ⟨_, rfl⟩
  have hbv : Below w1.heap.size w1 V := by rw [hV]; exact (Below.refl _ _).alloc (Nat.le_refl _) _
  have BX := Lib.hid (show Blk V w1.heap.size 25 #[.int .i64 3, .slice A 32 32, .slice (some ⟨g, 0, none⟩) 4 4] by rw [hV]; exact Blk.new _ _ _)
  have HA1 := Lib.hid (ha.below hbv)
  have HT1 := Lib.hid (ht.below hbv)
  have HB1 := Lib.hid (below_next hb1 (Nat.le_refl _) hbv)
  have z1 : w.heap.size ≤ w1.heap.size := hb1.size
  have p2 := BX.out.cell 2
  have pz := BX.out.lt
  simp at p2
  obtain ⟨_, g3, c0, c1, c2, f0, f1, f2, hn1, _⟩ := HT1.out.spotAt 0 (by decide) ⟨1, 1, -1⟩
  simp only [Nat.zero_mul, Nat.zero_add] at c0 c1 c2 f0 f1 f2 hn1
  have HV := Lib.hid hV
  clear hV hbv ha ht hb1
  rw [← HV.out]
  go_upto_region 3 with fail
  obtain ⟨W, hW⟩ : ∃ W, W = ((V.setCell ⟨g, 0, none⟩ (.int .i64 1)).setCell ⟨g, 1, none⟩ (.int .i64 1)).setCell ⟨g, 2, none⟩ (.int .i64 (-1)) := ⟨_, rfl⟩
  have hgx : w1.heap.size ≠ g := by omega
  have BX2 := Lib.hid (show Blk W w1.heap.size 25 #[.int .i64 3, .slice A 32 32, .slice (some ⟨g, 0, none⟩) 4 4] by rw [hW]; exact BX.out.far3 hgx _ _ _)
  have HA2 := Lib.hid (show Own W w.heap.size A 32 32 (fun _ => 0) by rw [hW]; exact own_setT HA1.out HT1.out _ _ _)
  have HT2 := Lib.hid (show OwnT W w.heap.size (some ⟨g, 0, none⟩) 4 4 P1 by rw [hW]; exact hn1)
  have HB2 := Lib.hid (show Below w.heap.size w W by rw [hW]; exact below_set3 HB1.out (by omega) _ _ _)
  have HW := Lib.hid hW
  clear hW hn1 c0 c1 c2 f0 f1 f2 p2 pz
  have p2 := BX2.out.cell 2
  have pz := BX2.out.lt
  simp at p2
  obtain ⟨_, g4, c0, c1, c2, f0, f1, f2, hn2, _⟩ := HT2.out.spotAt 2 (by decide) ⟨1, 1, 0⟩
  simp only [Nat.reduceMul, Nat.reduceAdd] at c0 c1 c2 f0 f1 f2 hn2
  rw [← HW.out]
  go_upto_region 4 with fail
  obtain ⟨Z, hZ⟩ : ∃ Z, Z = ((W.setCell ⟨g, 6, none⟩ (.int .i64 1)).setCell ⟨g, 7, none⟩ (.int .i64 1)).setCell ⟨g, 8, none⟩ (.int .i64 0) := ⟨_, rfl⟩
  have BX3 := Lib.hid (show Blk Z w1.heap.size 25 #[.int .i64 3, .slice A 32 32, .slice (some ⟨g, 0, none⟩) 4 4] by rw [hZ]; exact BX2.out.far3 hgx _ _ _)
  have HA3 := Lib.hid (show Own Z w.heap.size A 32 32 Z8 by rw [hZ]; exact own_setT HA2.out HT2.out _ _ _)
  have HT3 := Lib.hid (show OwnT Z w.heap.size (some ⟨g, 0, none⟩) 4 4 Pf by rw [hZ]; exact hn2)
  have HB3 := Lib.hid (show Below w.heap.size w Z by rw [hZ]; exact below_set3 HB2.out (by omega) _ _ _)
  have HZ := Lib.hid hZ
  clear hZ hn2 c0 c1 c2 f0 f1 f2 p2 pz
  have p0 := BX3.out.cell 0
  have p1 := BX3.out.cell 1
  have p2 := BX3.out.cell 2
  have pz := BX3.out.lt
  simp at p0 p1 p2
  rw [← HZ.out]
  -- Init
  have CI := objInit_any (3 : Nat) A (some ⟨g, 0, none⟩) 32 32 4 4 Z8 Pf 22 1 2 Z HA3.out.arr HT3.out.tab (by decide) (by decide) (by decide) (by decide) (by decide) (by decide)
  go_wp2_with fail
  refine CI.mono ?_
  rintro e Y1 (⟨y, h1, h2, _⟩ | ⟨_, A1, c1, g1', c2, rfl, ho, ht, hb⟩)
  · exact absurd (h1.symm.trans w8_ini) h2
  have HOW := Lib.hid (show Own Y1 Z.heap.size A1 32 c1 W8 from ho)
  have HTW := Lib.hid ht
  have BX4 := BX3.out.next hb
  have HB4 := Lib.hid (below_next HB3.out (Nat.le_refl _) hb)
  have zx : w1.heap.size < Z.heap.size := pz
  clear ho ht hb p0 p1 p2 pz CI
  have q0 := BX4.cell 0
  have q1 := BX4.cell 1
  have q2 := BX4.cell 2
  have f0 := BX4.frozen 0
  have f1 := BX4.frozen 1
  have f2 := BX4.frozen 2
  have qz := BX4.lt
  simp at q0 q1 q2
  obtain ⟨X1, hX1⟩ : ∃ X, X = ((Y1.setCell ⟨w1.heap.size, 0, none⟩ (.int .i64 3)).setCell ⟨w1.heap.size, 1, none⟩ (.slice A1 32 c1)).setCell ⟨w1.heap.size, 2, none⟩ (.slice (some ⟨g1', 0, none⟩) 4 c2) := ⟨_, rfl⟩
  have BX5 := Lib.hid (show Blk X1 w1.heap.size 25 #[.int .i64 3, .slice A1 32 c1, .slice (some ⟨g1', 0, none⟩) 4 c2] by rw [hX1]; exact ((BX4.set_ 0 _).set_ 1 _).set_ 2 _)
  have HO5 := Lib.hid (show Own X1 Z.heap.size A1 32 c1 W8 by rw [hX1]; exact HOW.out.put3 zx _ _ _)
  have HT5 := Lib.hid (show OwnT X1 Z.heap.size (some ⟨g1', 0, none⟩) 4 c2 Pf by rw [hX1]; exact HTW.out.put3 zx _ _ _)
  have HB5 := Lib.hid (show Below w.heap.size w X1 by rw [hX1]; exact below_put3 HB4.out z1 _ _ _)
  have HX1 := Lib.hid hX1
  clear hX1 HOW HTW
  go_upto_region 5 with fail
  rw [← HX1.out]
  clear q0 q1 q2 f0 f1 f2 qz BX4
  have q0 := BX5.out.cell 0
  have q1 := BX5.out.cell 1
  have q2 := BX5.out.cell 2
  have qz := BX5.out.lt
  simp at q0 q1 q2
  -- Slots
  have CS := objSlots_any (3 : Nat) A1 (some ⟨g1', 0, none⟩) 32 c1 4 c2 W8 Pf 22 X1 HO5.out.arr HT5.out.tab w8_u64 (by decide) (by decide)
  rw [w8_slots, w8_shape.1] at CS
  go_wp2_with fail
  refine CS.mono ?_
  rintro e Y2 ⟨A5, c5, rfl, hn5, hb⟩
  obtain ⟨b5, o5, rfl, _, hc5⟩ := hn5.at_ 0 (by decide)
  have hc5' : Y2.cell? ⟨b5, o5 + 0, none⟩ = some (.int .i64 23) := hc5
  have z5 := cell_lt hc5'
  have BX6 := Lib.hid (BX5.out.next hb)
  have HO6 := Lib.hid (HO5.out.below hb)
  have HT6 := Lib.hid (HT5.out.below hb)
  have HB6 := Lib.hid (below_next HB5.out (Nat.le_refl _) hb)
  clear hn5 hc5 hb CS q0 q1 q2 qz
  have q0 := BX6.out.cell 0
  have q1 := BX6.out.cell 1
  have q2 := BX6.out.cell 2
  have qz := BX6.out.lt
  simp at q0 q1 q2
  -- SetData
  have CD := objSetData_any (3 : Nat) A1 (some ⟨g1', 0, none⟩) 32 c1 4 c2 W8 Pf 22 1 9 Y2 HO6.out.arr HT6.out.tab w8_u64 (by decide) (by decide)
  go_upto_region 6 with fail
  go_wp2_with fail
  refine CD.mono ?_
  rintro e Y3 (⟨y, h1, h2, _⟩ | ⟨_, A7, c7, g7, c8, rfl, ho, ht, hb⟩)
  · exact absurd (h1.symm.trans w8_plc.1) h2
  obtain ⟨b7, o7, rfl, zb7, hc7⟩ := ho.arr.at_ 1 (by decide)
  rw [w8_set] at hc7
  have hc5'' := (hb.cell (p := ⟨b5, o5 + 0, none⟩) z5).trans hc5'
  have z5' : b5 < Y3.heap.size := Nat.lt_of_lt_of_le z5 hb.size
  have BX7 := BX6.out.next hb
  have HB7 := Lib.hid (below_next HB6.out (Nat.le_refl _) hb)
  have zy : w1.heap.size < Y2.heap.size := BX6.out.lt
  have hbb : Y2.heap.size ≤ b7 := by
    obtain ⟨x, e, hx, _⟩ := ho.where_ (by decide)
    injection e with e; injection e with e; omega
  have hne : b7 ≠ w1.heap.size := by omega
  clear ht hb CD q0 q1 q2 qz ho
  have q0 := BX7.cell 0
  have q1 := BX7.cell 1
  have q2 := BX7.cell 2
  have f0 := BX7.frozen 0
  have f1 := BX7.frozen 1
  have f2 := BX7.frozen 2
  have qz := BX7.lt
  simp at q0 q1 q2
  obtain ⟨X2, hX2⟩ : ∃ X, X = ((Y3.setCell ⟨w1.heap.size, 0, none⟩ (.int .i64 3)).setCell ⟨w1.heap.size, 1, none⟩ (.slice (some ⟨b7, o7, none⟩) 32 c7)).setCell ⟨w1.heap.size, 2, none⟩ (.slice (some ⟨g7, 0, none⟩) 4 c8) := ⟨_, rfl⟩
  have BX8 : Blk X2 w1.heap.size 25 #[.int .i64 3, .slice (some ⟨b7, o7, none⟩) 32 c7, .slice (some ⟨g7, 0, none⟩) 4 c8] := by rw [hX2]; exact ((BX7.set_ 0 _).set_ 1 _).set_ 2 _
  have HB8 := Lib.hid (show Below w.heap.size w X2 by rw [hX2]; exact below_put3 HB7.out z1 _ _ _)
  have keep : ∀ b o, b ≠ w1.heap.size → X2.cell? ⟨b, o, none⟩ = Y3.cell? ⟨b, o, none⟩ := fun b o h => by
    rw [hX2]
    exact cell_heap ((Below.heap_setCell _ ⟨w1.heap.size, 2, none⟩ _ b h).trans ((Below.heap_setCell _ ⟨w1.heap.size, 1, none⟩ _ b h).trans (Below.heap_setCell Y3 ⟨w1.heap.size, 0, none⟩ _ b h)))
  have hb5 : b5 ≠ w1.heap.size := by
    intro e
    subst e
    have h := BX6.out.cell (o5 + 0)
    rw [hc5'] at h
    rcases (show o5 + 0 = 0 ∨ o5 + 0 = 1 ∨ o5 + 0 = 2 ∨ 3 ≤ o5 + 0 by omega) with e | e | e | e
    · rw [e] at h; simp at h
    · rw [e] at h; simp at h
    · rw [e] at h; simp at h
    · rw [Array.getElem?_eq_none (by simpa using e)] at h; cases h
  have d5 : X2.cell? ⟨b5, o5, none⟩ = some (.int .i64 23) := (keep b5 (o5 + 0) hb5).trans hc5''
  have d7 := (keep b7 (o7 + 1) hne).trans hc7
  have dz5 : b5 < X2.heap.size := cell_lt d5
  have dz7 : b7 < X2.heap.size := cell_lt d7
  have HX2 := Lib.hid hX2
  clear hX2 keep hc5'' hc7 hc5'
  go_upto_region 7 with fail
  rw [← HX2.out]
  clear q0 q1 q2 f0 f1 f2 qz BX7
  have q1 := BX8.cell 1
  have qz := BX8.lt
  simp at q1
  go_wp2_with fail
  go_ret
  exact ⟨rfl, HB8.out⟩
end Go.Proofs.Ytfjdafnejhgijaa
