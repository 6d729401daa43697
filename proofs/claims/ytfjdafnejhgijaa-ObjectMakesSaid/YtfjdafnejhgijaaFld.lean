/-
  Contracts of package object: locate, read, write and addresses by each finder; Ref, Data, SetRef, SetData, Slots. (Written by wip/tools/mkfld-s8.py.)
-/
import Derived.Test.YtfjdafnejhgijaaDec
namespace Go.Proofs.Ytfjdafnejhgijaa
open Go.RowKit
set_option maxRecDepth 100000
set_option linter.unusedVariables false

theorem fin_eq {s : Int} {nw : Nat} {wd : Nat → Int} {n : Nat} {F : Nat → Fr} {a i : Int} {t : Bool} (hu : U64w nw wd) (h : shpE s nw wd n F a = 0) :
    plcV s nw wd n F a i t = (if i < 0 ∨ atN (shpR s nw wd n F a) (shpD s nw wd n F a) t ≤ i then 0 else stpV s nw wd n F a (atK (shpR s nw wd n F a) t i)) ∧
    plcE s nw wd n F a i t = (if i < 0 ∨ atN (shpR s nw wd n F a) (shpD s nw wd n F a) t ≤ i then 17 else stpE s nw wd n F a (atK (shpR s nw wd n F a) t i)) := by
  by_cases hi : i < 0 ∨ atN (shpR s nw wd n F a) (shpD s nw wd n F a) t ≤ i
  · rw [if_pos hi, if_pos hi]
    have := plc_out (t := t) h hi
    exact ⟨this.2, this.1⟩
  · rw [if_neg hi, if_neg hi]
    have h1 : 0 ≤ i := by
      rcases Int.lt_or_le i 0 with e | e
      · exact absurd (.inl e) hi
      · exact e
    have h2 : i < fldN s nw wd n F a t := by
      rcases Int.lt_or_le i (fldN s nw wd n F a t) with e | e
      · exact e
      · exact absurd (.inr e) hi
    obtain ⟨e1, e2⟩ := plc_ok h h1 h2
    exact ⟨e2, e1.trans (fld_step hu h h1 h2).1.symm⟩

set_option maxHeartbeats 2000000 in
theorem locRef_any (s : Int) (A A' : Option Addr) (nw c n c' : Nat) (wd : Nat → Int) (F : Nat → Fr) (a i : Int) (w : World) (hA : Arr w w.heap.size A nw c wd) (hT : Tab w w.heap.size A' n c' F) (hu : U64w nw wd)
    (a0 : -9223372036854775808 ≤ a) (a1 : a ≤ 9223372036854775807) :
    Calls Try.prog 76 #[.agg #[.int .i64 s, .slice A nw c, .slice A' n c'], .int .i64 a, .int .i64 i, .func (.func 44) #[] #[]] w (Gives2 (plcV s nw wd n F a i true) (plcE s nw wd n F a i true) w) := by
  obtain ⟨U, hU⟩ : ∃ U, U = w.alloc (.cells #[.int .i64 s, .slice A nw c, .slice A' n c'] 25) := ⟨_, rfl⟩
  have BU : Blk U w.heap.size 25 #[.int .i64 s, .slice A nw c, .slice A' n c'] := by rw [hU]; exact Blk.new _ _ _
  have HBU : Hid (Below w.heap.size w U) := by rw [hU]; exact (Below.refl _ _).alloc (Nat.le_refl _) _
  have HU := Lib.hid hU
  have HA := Lib.hid (hA.next HBU.out)
  have HT := Lib.hid (hT.next HBU.out)
  have p0 := BU.cell 0
  have p1 := BU.cell 1
  have p2 := BU.cell 2
  have pz := BU.lt
  simp at p0 p1 p2
  clear hA hT hU
  have c1 := objDec_any s A A' nw c n c' wd F a U HA.out HT.out hu a0 a1
  have hr := shp_range (s := s) (n := n) (F := F) (a := a) hu
  have HBAD := Lib.hid (fun h => plc_bad (s := s) (nw := nw) (wd := wd) (n := n) (F := F) (a := a) (i := i) (t := true) h)
  have HFIN := Lib.hid (fun h => fin_eq (s := s) (nw := nw) (wd := wd) (n := n) (F := F) (a := a) (i := i) (t := true) hu h)
  obtain ⟨R, hR⟩ : ∃ R, R = shpR s nw wd n F a := ⟨_, rfl⟩
  obtain ⟨D, hD⟩ : ∃ D, D = shpD s nw wd n F a := ⟨_, rfl⟩
  have HRR := Lib.hid hR
  have HDD := Lib.hid hD
  rw [← hR, ← hD] at hr
  have FI : ∀ W, Below U.heap.size U W → Calls Try.prog 44 #[.agg #[.int .i64 s, .slice A nw c, .slice A' n c', .int .i64 a, .int .i64 R, .int .i64 D], .int .i64 i] W (Gives2 (if i < 0 ∨ R ≤ i then 0 else stpV s nw wd n F a (atK R true i)) (if i < 0 ∨ R ≤ i then 17 else stpE s nw wd n F a (atK R true i)) W) := fun W hW =>
    refAt_any s A A' nw c n c' wd F a R D i W (HA.out.next hW) (HT.out.next hW) a0 a1 (by omega)
  obtain ⟨pv, hpv⟩ : ∃ v, v = (if i < 0 ∨ R ≤ i then 0 else stpV s nw wd n F a (atK R true i)) := ⟨_, rfl⟩
  obtain ⟨pe, hpe⟩ : ∃ v, v = (if i < 0 ∨ R ≤ i then 17 else stpE s nw wd n F a (atK R true i)) := ⟨_, rfl⟩
  rw [← hpv, ← hpe] at FI
  have HPV := Lib.hid hpv
  have HPE := Lib.hid hpe
  have HFI := Lib.hid FI
  clear hR hD FI hpv hpe hr
  go_enter Try.func76, Try.ntmps76
  go_wp2_with fail
  rw [← HU.out]
  refine c1.mono ?_
  rintro e U1 (⟨y, h1, h2, rfl, hb1⟩ | ⟨h1, rfl, hb1⟩)
  · have HB1 := Lib.hid (below_next HBU.out (Nat.le_refl _) hb1)
    have hne : (y != 0) = true := by simpa using h2
    have hbd := HBAD.out (by rw [h1]; exact h2)
    rw [h1] at hbd
    have HBD := Lib.hid hbd
    unfold zObj
    clear h1 h2 hb1 p0 p1 p2 hbd HFI HFIN HBAD
    go_wp2_with fail
    go_ret2
    exact ⟨ret2 HBD.out.2.symm HBD.out.1.symm, HB1.out.alloc HB1.out.size _⟩
  · have hfin := HFIN.out h1
    have HFE := Lib.hid hfin
    unfold ObjV
    rw [← HRR.out, ← HDD.out]
    have HBB := Lib.hid hb1
    obtain ⟨U2, hU2⟩ : ∃ U2, U2 = U1.alloc (.cells #[.int .i64 s, .slice A nw c, .slice A' n c', .int .i64 a, .int .i64 R, .int .i64 D] 76) := ⟨_, rfl⟩
    have hb2 : Below U1.heap.size U1 U2 := by rw [hU2]; exact (Below.refl _ _).alloc (Nat.le_refl _) _
    have BO : Blk U2 U1.heap.size 76 #[.int .i64 s, .slice A nw c, .slice A' n c', .int .i64 a, .int .i64 R, .int .i64 D] := by rw [hU2]; exact Blk.new _ _ _
    have HB2 := Lib.hid (below_next HBB.out (Nat.le_refl _) hb2)
    have HU2 := Lib.hid hU2
    have o0 := BO.cell 0
    have o1 := BO.cell 1
    have o2 := BO.cell 2
    have o3 := BO.cell 3
    have o4 := BO.cell 4
    have o5 := BO.cell 5
    have oz := BO.lt
    simp at o0 o1 o2 o3 o4 o5
    clear h1 hb1 hb2 p0 p1 p2 hfin hU2 HFIN HBAD
    go_upto_region 2 with fail
    rw [← HU2.out]
    go_wp2_with fail
    refine (HFI.out _ HB2.out).mono ?_
    rintro e U3 ⟨rfl, hb3⟩
    have HB3 := Lib.hid (below_next HBU.out (Nat.le_refl _) (below_next HB2.out (Nat.le_refl _) hb3))
    clear hb3
    go_wp2_with fail
    go_ret2
    refine ⟨ret2 ?_ ?_, HB3.out⟩
    · rw [HPV.out, HFE.out.1, HRR.out]; rfl
    · rw [HPE.out, HFE.out.2, HRR.out]; rfl

set_option maxHeartbeats 2000000 in
theorem readRef_any (s : Int) (A A' : Option Addr) (nw c n c' : Nat) (wd : Nat → Int) (F : Nat → Fr) (a i : Int) (w : World) (hA : Arr w w.heap.size A nw c wd) (hT : Tab w w.heap.size A' n c' F) (hu : U64w nw wd)
    (a0 : -9223372036854775808 ≤ a) (a1 : a ≤ 9223372036854775807) :
    Calls Try.prog 52 #[.agg #[.int .i64 s, .slice A nw c, .slice A' n c'], .int .i64 a, .int .i64 i, .func (.func 44) #[] #[]] w (GivesW (getV s nw wd n F a i true) (plcE s nw wd n F a i true) w) := by
  obtain ⟨U, hU⟩ : ∃ U, U = w.alloc (.cells #[.int .i64 s, .slice A nw c, .slice A' n c'] 25) := ⟨_, rfl⟩
  have BU : Blk U w.heap.size 25 #[.int .i64 s, .slice A nw c, .slice A' n c'] := by rw [hU]; exact Blk.new _ _ _
  have HBU : Hid (Below w.heap.size w U) := by rw [hU]; exact (Below.refl _ _).alloc (Nat.le_refl _) _
  have HU := Lib.hid hU
  have HA := Lib.hid (hA.next HBU.out)
  have HT := Lib.hid (hT.next HBU.out)
  have p0 := BU.cell 0
  have p1 := BU.cell 1
  have p2 := BU.cell 2
  have pz := BU.lt
  simp at p0 p1 p2
  clear hA hT hU
  have c1 := locRef_any s A A' nw c n c' wd F a i U HA.out HT.out hu a0 a1
  by_cases h0 : plcE s nw wd n F a i true = 0
  · obtain ⟨h1, h2, h3⟩ := plc_yes h0
    have hvp := validB_of (stp_iff.1 (shp_yes h1).1).1
    obtain ⟨s0, _⟩ := shB_yes hvp.1
    obtain ⟨K, rfl⟩ := Int.eq_ofNat_of_zero_le (show 0 ≤ s by omega)
    obtain ⟨P, hP, hlt⟩ := stp_nat (fld_step hu h1 h2 h3).1
    rw [← (plc_ok h1 h2 h3).2] at hP
    have hg : getV K nw wd n F a i true = wd P := by unfold getV; rw [if_pos h0, hP, Int.toNat_natCast]
    rw [h0, hP] at c1
    rw [h0, hg]
    obtain ⟨b, o, rfl, hb, hc⟩ := HA.out.at_ P hlt
    obtain ⟨x, hx⟩ : ∃ x, x = wd P := ⟨_, rfl⟩
    rw [← hx] at hc ⊢
    have pi : 0 ≤ (P : Int) ∧ (P : Int) < nw := by omega
    have zb : b < U.heap.size := hb
    clear hvp h0 h1 h2 h3 hP hg hx hb
    go_enter Try.func52, Try.ntmps52
    go_wp2_with fail
    rw [← HU.out]
    refine c1.mono ?_
    rintro e U1 ⟨rfl, hb1⟩
    have BU1 := BU.next hb1
    have HB1 := Lib.hid (below_next HBU.out (Nat.le_refl _) hb1)
    have q0 := BU1.cell 0
    have q1 := BU1.cell 1
    have q2 := BU1.cell 2
    have qz := BU1.lt
    simp at q0 q1 q2
    have hc2 := (hb1.cell (p := ⟨b, o + P, none⟩) zb).trans hc
    have zb2 : b < U1.heap.size := Nat.lt_of_lt_of_le zb hb1.size
    clear hb1 p0 p1 p2
    go_wp2_with fail
    go_ret2
    exact ⟨rfl, HB1.out⟩
  · have hg : getV s nw wd n F a i true = 0 := by unfold getV; rw [if_neg h0]
    rw [hg]
    obtain ⟨y, hy⟩ : ∃ y, y = plcE s nw wd n F a i true := ⟨_, rfl⟩
    obtain ⟨v, hv'⟩ : ∃ v, v = plcV s nw wd n F a i true := ⟨_, rfl⟩
    rw [← hy, ← hv'] at c1
    rw [← hy] at h0 ⊢
    have hne : (y != 0) = true := by simpa using h0
    clear hg hy hv' h0
    go_enter Try.func52, Try.ntmps52
    go_wp2_with fail
    rw [← HU.out]
    refine c1.mono ?_
    rintro e U1 ⟨rfl, hb1⟩
    have HB1 := Lib.hid (below_next HBU.out (Nat.le_refl _) hb1)
    clear hb1 p0 p1 p2
    go_wp2_with fail
    go_ret2
    exact ⟨rfl, HB1.out⟩

set_option maxHeartbeats 4000000 in
theorem writeRef_any (s : Int) (A A' : Option Addr) (nw c n c' : Nat) (wd : Nat → Int) (F : Nat → Fr) (a i v : Int) (w : World) (hA : Arr w w.heap.size A nw c wd) (hT : Tab w w.heap.size A' n c' F) (hu : U64w nw wd)
    (a0 : -9223372036854775808 ≤ a) (a1 : a ≤ 9223372036854775807) :
    Calls Try.prog 54 #[.agg #[.int .i64 s, .slice A nw c, .slice A' n c'], .int .i64 a, .int .i64 i, .int .u64 v, .func (.func 44) #[] #[]] w (SetOut s nw n wd F a i true v w) := by
  obtain ⟨U, hU⟩ : ∃ U, U = (w.alloc (.cells #[.int .i64 s, .slice A nw c, .slice A' n c'] 25)).alloc (.cells #[.int .i64 0, .slice none 0 0, .slice none 0 0] 25) := ⟨_, rfl⟩
  have BU : Blk U w.heap.size 25 #[.int .i64 s, .slice A nw c, .slice A' n c'] := by rw [hU]; exact (Blk.new _ _ _).alloc _
  have BR : Blk U (w.heap.size + 1) 25 #[.int .i64 0, .slice none 0 0, .slice none 0 0] := by rw [hU]; exact Blk.newAt _ _ _ _ (by simp)
  have HBU : Hid (Below w.heap.size w U) := by rw [hU]; exact ((Below.refl _ _).alloc (Nat.le_refl _) _).alloc (by simp) _
  have HU := Lib.hid hU
  have HA := Lib.hid (hA.next HBU.out)
  have HT := Lib.hid (hT.next HBU.out)
  have p0 := BU.cell 0
  have p1 := BU.cell 1
  have p2 := BU.cell 2
  have pz := BU.lt
  simp at p0 p1 p2
  clear hA hT hU
  have c1 := locRef_any s A A' nw c n c' wd F a i U HA.out HT.out hu a0 a1
  by_cases h0 : plcE s nw wd n F a i true = 0
  · obtain ⟨h1, h2, h3⟩ := plc_yes h0
    have hvp := validB_of (stp_iff.1 (shp_yes h1).1).1
    obtain ⟨s0, _⟩ := shB_yes hvp.1
    obtain ⟨K, rfl⟩ := Int.eq_ofNat_of_zero_le (show 0 ≤ s by omega)
    obtain ⟨n2, n64, nw0, nw1⟩ := sp_bounds hvp
    obtain ⟨P, hP, hlt⟩ := stp_nat (fld_step hu h1 h2 h3).1
    rw [← (plc_ok h1 h2 h3).2] at hP
    have hs : (fun j => if j = P then v else wd j) = setW K nw wd n F a i true v := by
      unfold setW
      rw [hP, Int.toNat_natCast]
    have HS := Lib.hid hs
    have H0 := Lib.hid h0
    rw [h0, hP] at c1
    have pi : 0 ≤ (P : Int) ∧ (P : Int) < nw := by omega
    clear hvp h0 h1 h2 h3 hP hs
    go_enter Try.func54, Try.ntmps54
    go_wp2_with fail
    rw [← HU.out]
    refine c1.mono ?_
    rintro e U1 ⟨rfl, hb1⟩
    have BU1 := BU.next hb1
    have BR1 := BR.next hb1
    have HB1 := Lib.hid hb1
    have q0 := BU1.cell 0
    have q1 := BU1.cell 1
    have q2 := BU1.cell 2
    have qz := BU1.lt
    simp at q0 q1 q2
    clear hb1 p0 p1 p2 pz
    go_wp2_with fail
    refine (objClone_any K A A' nw c n c' wd F U1 (HA.out.next HB1.out) (HT.out.next HB1.out) (by omega) (by omega) (by omega) (by omega)).mono ?_
    rintro e U3 ⟨A1, c1, g, c2, rfl, ho, ht, hb3⟩
    obtain ⟨x, rfl, xb, xz⟩ := ho.where_ nw0
    have hgb := ht.bounds
    have BR3 := BR1.next hb3
    have HB3 : Hid (Below w.heap.size w U3) := below_next HBU.out (Nat.le_refl _) (below_next HB1.out (Nat.le_refl _) hb3)
    have z1 : w.heap.size + 1 < U1.heap.size := BR1.lt
    obtain ⟨X, hX⟩ : ∃ X, X = U3.alloc (.cells #[.int .i64 K, .slice (some ⟨x, 0, none⟩) nw c1, .slice (some ⟨g, 0, none⟩) n c2] 25) := ⟨_, rfl⟩
    have BO : Blk X U3.heap.size 25 #[.int .i64 K, .slice (some ⟨x, 0, none⟩) nw c1, .slice (some ⟨g, 0, none⟩) n c2] := by rw [hX]; exact Blk.new _ _ _
    have hbx : Below U3.heap.size U3 X := by rw [hX]; exact (Below.refl _ _).alloc (Nat.le_refl _) _
    have BR4 := BR3.next hbx
    have HB4 : Hid (Below w.heap.size w X) := below_next HB3.out (Nat.le_refl _) hbx
    have HO4 := Lib.hid (ho.below hbx)
    have HT4 := Lib.hid (ht.below hbx)
    have HX := Lib.hid hX
    obtain ⟨gx, hgx, _, gx2, wc0, wf0, hnew⟩ := HO4.out.spot P hlt v
    injection hgx with hgx
    injection hgx with hgx
    subst hgx
    rw [HS.out] at hnew
    have hT5 := (HT4.out.beside HO4.out (turn_set (turn_below (a := X) (w := X) (Below.refl _ _)) P (.int .u64 v))).1
    have HB5 := HB4.out.setCell (p := ⟨x, P, none⟩) (show w.heap.size ≤ x by omega) (.int .u64 v)
    have HN5 := Lib.hid hnew
    have HT5 := Lib.hid hT5
    have HB5 := Lib.hid HB5
    have BO5 := BO.far (p := ⟨x, P, none⟩) (show U3.heap.size ≠ x by omega) (.int .u64 v)
    have BR5 := BR4.far (p := ⟨x, P, none⟩) (show w.heap.size + 1 ≠ x by omega) (.int .u64 v)
    obtain ⟨Y, hY⟩ : ∃ Y, Y = X.setCell ⟨x, P, none⟩ (.int .u64 v) := ⟨_, rfl⟩
    rw [← hY] at HN5 HT5 HB5 BO5 BR5
    have HY := Lib.hid hY
    have o0 := BO.cell 0
    have o1 := BO.cell 1
    have o2 := BO.cell 2
    have oz := BO.lt
    simp at o0 o1 o2
    clear ho ht hb3 hX hbx BR3 hnew hT5 hY q0 q1 q2 qz BU BU1 BR BR1
    go_upto_region 5 with fail
    rw [← HX.out]
    go_upto_region 6 with fail
    rw [← HY.out]
    have y0 := BO5.cell 0
    have y1 := BO5.cell 1
    have y2 := BO5.cell 2
    have yz := BO5.lt
    have r0 := BR5.cell 0
    have r1 := BR5.cell 1
    have r2 := BR5.cell 2
    have f0 := BR5.frozen 0
    have f1 := BR5.frozen 1
    have f2 := BR5.frozen 2
    have rz := BR5.lt
    simp at y0 y1 y2 r0 r1 r2
    clear o0 o1 o2 oz wc0 wf0
    go_wp2
    refine bodyPost_ret (v := .tuple #[.agg #[.int .i64 K, .slice (some ⟨x, 0, none⟩) nw c1, .slice (some ⟨g, 0, none⟩) n c2], .int .i64 0]) (by simp [results, Try.results54, go_sem, r0, r1, r2]) rfl (.inr ⟨H0.out, _, _, _, _, rfl, ?_, ?_, ?_⟩)
    · exact (HN5.out.put3 z1 _ _ _).lower (by omega)
    · exact (HT5.out.put3 z1 _ _ _).lower (by omega)
    · exact below_put3 HB5.out (by omega) _ _ _
  · obtain ⟨y, hy⟩ : ∃ y, y = plcE s nw wd n F a i true := ⟨_, rfl⟩
    obtain ⟨v', hv'⟩ : ∃ v, v = plcV s nw wd n F a i true := ⟨_, rfl⟩
    rw [← hy, ← hv'] at c1
    rw [← hy] at h0
    have hne : (y != 0) = true := by simpa using h0
    have HY := Lib.hid hy
    have HY0 := Lib.hid h0
    clear hy hv' h0
    go_enter Try.func54, Try.ntmps54
    go_wp2_with fail
    rw [← HU.out]
    refine c1.mono ?_
    rintro e U1 ⟨rfl, hb1⟩
    have BR2 := BR.next hb1
    have HB2 := Lib.hid (below_next HBU.out (Nat.le_refl _) hb1)
    have r0 := BR2.cell 0
    have r1 := BR2.cell 1
    have r2 := BR2.cell 2
    have f0 := BR2.frozen 0
    have f1 := BR2.frozen 1
    have f2 := BR2.frozen 2
    have rz := BR2.lt
    simp at r0 r1 r2
    clear hb1 p0 p1 p2
    go_wp2_with fail
    refine bodyPost_ret (v := .tuple #[.agg #[.int .i64 0, .slice none 0 0, .slice none 0 0], .int .i64 y]) (by simp [results, Try.results54, go_sem, r0, r1, r2]) rfl (.inl ⟨y, HY.out.symm, HY0.out, rfl, below_put3 HB2.out (by omega) _ _ _⟩)

theorem objRef_any (s : Int) (A A' : Option Addr) (nw c n c' : Nat) (wd : Nat → Int) (F : Nat → Fr) (a i : Int) (w : World) (hA : Arr w w.heap.size A nw c wd) (hT : Tab w w.heap.size A' n c' F) (hu : U64w nw wd)
    (a0 : -9223372036854775808 ≤ a) (a1 : a ≤ 9223372036854775807) :
    Calls Try.prog 24 #[.agg #[.int .i64 s, .slice A nw c, .slice A' n c'], .int .i64 a, .int .i64 i] w (GivesW (getV s nw wd n F a i true) (plcE s nw wd n F a i true) w) := by
  obtain ⟨U, hU⟩ : ∃ U, U = w.alloc (.cells #[.int .i64 s, .slice A nw c, .slice A' n c'] 25) := ⟨_, rfl⟩
  have BU : Blk U w.heap.size 25 #[.int .i64 s, .slice A nw c, .slice A' n c'] := by rw [hU]; exact Blk.new _ _ _
  have HBU : Hid (Below w.heap.size w U) := by rw [hU]; exact (Below.refl _ _).alloc (Nat.le_refl _) _
  have HU := Lib.hid hU
  have HA := Lib.hid (hA.next HBU.out)
  have HT := Lib.hid (hT.next HBU.out)
  have p0 := BU.cell 0
  have p1 := BU.cell 1
  have p2 := BU.cell 2
  have pz := BU.lt
  simp at p0 p1 p2
  clear hA hT hU
  have c1 := readRef_any s A A' nw c n c' wd F a i U HA.out HT.out hu a0 a1
  obtain ⟨x, hx⟩ : ∃ x, x = getV s nw wd n F a i true := ⟨_, rfl⟩
  obtain ⟨y, hy⟩ : ∃ y, y = plcE s nw wd n F a i true := ⟨_, rfl⟩
  rw [← hx, ← hy] at c1 ⊢
  clear hx hy
  go_enter Try.func24, Try.ntmps24
  go_wp2_with fail
  rw [← HU.out]
  refine c1.mono ?_
  rintro e U1 ⟨rfl, hb1⟩
  have HB1 := Lib.hid (below_next HBU.out (Nat.le_refl _) hb1)
  clear hb1
  go_wp2_with fail
  go_ret2
  exact ⟨rfl, HB1.out⟩

set_option maxHeartbeats 1000000 in
theorem objSetRef_any (s : Int) (A A' : Option Addr) (nw c n c' : Nat) (wd : Nat → Int) (F : Nat → Fr) (a i v : Int) (w : World) (hA : Arr w w.heap.size A nw c wd) (hT : Tab w w.heap.size A' n c' F) (hu : U64w nw wd)
    (a0 : -9223372036854775808 ≤ a) (a1 : a ≤ 9223372036854775807) :
    Calls Try.prog 26 #[.agg #[.int .i64 s, .slice A nw c, .slice A' n c'], .int .i64 a, .int .i64 i, .int .u64 v] w (SetOut s nw n wd F a i true v w) := by
  obtain ⟨U, hU⟩ : ∃ U, U = (w.alloc (.cells #[.int .i64 s, .slice A nw c, .slice A' n c'] 25)).alloc (.cells #[.int .i64 0, .slice none 0 0, .slice none 0 0] 25) := ⟨_, rfl⟩
  have BU : Blk U w.heap.size 25 #[.int .i64 s, .slice A nw c, .slice A' n c'] := by rw [hU]; exact (Blk.new _ _ _).alloc _
  have BR : Blk U (w.heap.size + 1) 25 #[.int .i64 0, .slice none 0 0, .slice none 0 0] := by rw [hU]; exact Blk.newAt _ _ _ _ (by simp)
  have HBU : Hid (Below w.heap.size w U) := by rw [hU]; exact ((Below.refl _ _).alloc (Nat.le_refl _) _).alloc (by simp) _
  have HU := Lib.hid hU
  have HA := Lib.hid (hA.next HBU.out)
  have HT := Lib.hid (hT.next HBU.out)
  have p0 := BU.cell 0
  have p1 := BU.cell 1
  have p2 := BU.cell 2
  have pz := BU.lt
  simp at p0 p1 p2
  clear hA hT hU
  have c1 := writeRef_any s A A' nw c n c' wd F a i v U HA.out HT.out hu a0 a1
  go_enter Try.func26, Try.ntmps26
  go_wp2_with fail
  rw [← HU.out]
  refine c1.mono ?_
  have z1 : w.heap.size + 1 < U.heap.size := BR.lt
  rintro e U1 (⟨y, h1, h2, rfl, hb1⟩ | ⟨h0, A1, c1, g, c2, rfl, h1, h2, hb1⟩)
  · have BR1 := BR.next hb1
    have HB1 := Lib.hid (below_next HBU.out (Nat.le_refl _) hb1)
    have H1 := Lib.hid h1
    have H2 := Lib.hid h2
    have r0 := BR1.cell 0
    have r1 := BR1.cell 1
    have r2 := BR1.cell 2
    have f0 := BR1.frozen 0
    have f1 := BR1.frozen 1
    have f2 := BR1.frozen 2
    have rz := BR1.lt
    simp at r0 r1 r2
    clear hb1 p0 p1 p2 pz h1 h2
    go_wp2_with fail
    refine bodyPost_ret (v := .tuple #[.agg #[.int .i64 0, .slice none 0 0, .slice none 0 0], .int .i64 y]) (by simp [results, Try.results26, go_sem, r0, r1, r2]) rfl (.inl ⟨y, H1.out, H2.out, rfl, below_put3 HB1.out (by omega) _ _ _⟩)
  · have BR1 := BR.next hb1
    have HB1 := Lib.hid (below_next HBU.out (Nat.le_refl _) hb1)
    have H0 := Lib.hid h0
    have H1 := Lib.hid h1
    have H2 := Lib.hid h2
    have r0 := BR1.cell 0
    have r1 := BR1.cell 1
    have r2 := BR1.cell 2
    have f0 := BR1.frozen 0
    have f1 := BR1.frozen 1
    have f2 := BR1.frozen 2
    have rz := BR1.lt
    simp at r0 r1 r2
    clear hb1 p0 p1 p2 pz h1 h2 h0
    go_wp2_with fail
    refine bodyPost_ret (v := .tuple #[.agg #[.int .i64 s, .slice A1 nw c1, .slice (some ⟨g, 0, none⟩) n c2], .int .i64 0]) (by simp [results, Try.results26, go_sem, r0, r1, r2]) rfl (.inr ⟨H0.out, _, _, _, _, rfl, ?_, ?_, ?_⟩)
    · exact (H1.out.put3 z1 _ _ _).lower (by omega)
    · exact (H2.out.put3 z1 _ _ _).lower (by omega)
    · exact below_put3 HB1.out (by omega) _ _ _

set_option maxHeartbeats 2000000 in
/-- The addresses of the first N fields, all of which Step finds. -/
theorem addrRef_any (s : Int) (A A' : Option Addr) (nw c n c' : Nat) (wd : Nat → Int) (F : Nat → Fr) (a r d : Int) (N : Nat) (w : World) (hA : Arr w w.heap.size A nw c wd) (hT : Tab w w.heap.size A' n c' F)
    (a0 : -9223372036854775808 ≤ a) (a1 : a ≤ 9223372036854775807) (r0 : 0 ≤ r) (r1 : r ≤ 15) (d1 : d ≤ 32) (hN : N ≤ 32) (hN2 : (N : Int) ≤ r) (hst : ∀ i : Nat, i < N → stpE s nw wd n F a (atK r true i) = 0 ∧ 0 ≤ stpV s nw wd n F a (atK r true i)) :
    Calls Try.prog 43 #[.agg #[.int .i64 s, .slice A nw c, .slice A' n c', .int .i64 a, .int .i64 r, .int .i64 d], .func (.func 44) #[] #[], .int .i64 N] w (GivesNums ((List.range N).map fun (i : Nat) => (stpV s nw wd n F a (atK r true i)).toNat) w) := by
  obtain ⟨i0, hi0, hz0, hz1, hz2⟩ := info_parts int_info
  obtain ⟨U, hU⟩ : ∃ U, U = w.alloc (.cells #[.int .i64 s, .slice A nw c, .slice A' n c', .int .i64 a, .int .i64 r, .int .i64 d] 76) := ⟨_, rfl⟩
  have BU : Blk U w.heap.size 76 #[.int .i64 s, .slice A nw c, .slice A' n c', .int .i64 a, .int .i64 r, .int .i64 d] := by rw [hU]; exact Blk.new _ _ _
  have HBU : Hid (Below w.heap.size w U) := by rw [hU]; exact (Below.refl _ _).alloc (Nat.le_refl _) _
  have HU := Lib.hid hU
  have HA := Lib.hid (hA.next HBU.out)
  have HT := Lib.hid (hT.next HBU.out)
  obtain ⟨f, hf⟩ : ∃ f : Nat → Int, f = fun (i : Nat) => stpV s nw wd n F a (atK r true i) := ⟨_, rfl⟩
  have hfn : ∀ i, i < N → 0 ≤ f i := fun i hi => by rw [hf]; exact (hst i hi).2
  have hsl : ((List.range N).map fun (i : Nat) => (stpV s nw wd n F a (atK r true i)).toNat) = (List.range N).map fun i => (f i).toNat := by rw [hf]
  rw [hsl]
  have FI : ∀ i : Nat, i < N → ∀ W, Below U.heap.size U W → Calls Try.prog 44 #[.agg #[.int .i64 s, .slice A nw c, .slice A' n c', .int .i64 a, .int .i64 r, .int .i64 d], .int .i64 i] W (Gives2 (f i) 0 W) := fun i hi W hW => by
    have h := refAt_any s A A' nw c n c' wd F a r d i W (HA.out.next hW) (HT.out.next hW) a0 a1 r1
    rw [if_neg (by omega), if_neg (by omega), (hst i hi).1] at h
    rw [hf]
    exact h
  have HFI := Lib.hid FI
  have HFN := Lib.hid hfn
  clear hA hT hU hst hf hfn hsl FI
  go_enter Try.func43, Try.ntmps43
  go_wp2
  rw [← HU.out]
  go_loopw [7, 8, 9, 10, 12] (fun v _ _ _ i wr => ∃ j : Nat, j ≤ N ∧ i = .int .i64 j ∧ wr.ownsRow U.heap.size 3 1 v j (intL f j) ∧ Below U.heap.size U wr ∧ (∃ A c, v = .slice A j c)) (fun _ _ _ _ i _ => N - (intOf i).toNat)
  case atStart => exact ⟨0, by omega, rfl, World.ownsRow_nil _ _ _ _, Below.refl _ _, none, 0, rfl⟩
  case round =>
    obtain ⟨j, hj, rfl, hown, hb, A2, c2, rfl⟩ := hrel
    have BRR := BU.next hb
    have HO := Lib.hid hown
    have HB := Lib.hid hb
    clear hown hb
    by_cases hlt : j < N
    · have q0 := BRR.cell 0
      have q1 := BRR.cell 1
      have q2 := BRR.cell 2
      have q3 := BRR.cell 3
      have q4 := BRR.cell 4
      have q5 := BRR.cell 5
      have qz := BRR.lt
      simp at q0 q1 q2 q3 q4 q5
      have G2 := HFI.out j hlt wr HB.out
      have hlt2 : (j : Int) < N := by omega
      go_wp2_with fail
      refine G2.mono ?_
      rintro e W1 ⟨rfl, hb1⟩
      have HO1 := Lib.hid (ownsRow_below8 HO.out hb1)
      have HBB := Lib.hid (below_next HB.out (Nat.le_refl _) hb1)
      have hob := row_block HO1.out
      have zz : U.heap.size ≤ W1.heap.size := HBB.out.size
      obtain ⟨y, hy⟩ : ∃ y, y = f j := ⟨_, rfl⟩
      rw [← hy]
      have HY := Lib.hid hy
      clear hb1 q0 q1 q2 q3 q4 q5 qz G2 hy
      go_wp2_with (at_builtin; refine wpList_append_own _ rfl _ _ 26 rfl U.heap.size 3 i0 (.int .i64 0) 1 8 Try.underlying26 hi0 hz0 hz1 hz2 rfl (by decide) _ j (intL f j) rfl (HO1.out.alloc _) ⟨W1.heap.size, 0, none⟩ 1 1 [.int .i64 y] rfl rfl ?c1 (by simp [Value.oneCell']) (by simp only [maxLen]; omega) (by omega) ?c5 ?_)
      case c1 => exact one_news (by go_simp)
      case c5 => simp; omega
      intro v' w1 hown' hgrow _
      obtain ⟨A1, c1', rfl, _⟩ := row_slice hown'
      have hb1' : Below U.heap.size U w1 := (HBB.out.alloc HBB.out.size _).grown hgrow (by simp; omega) hob
      have HN : Hid (w1.ownsRow U.heap.size 3 1 (.slice A1 (j + 1) c1') (j + 1) (intL f (j + 1))) := by rw [intL_succ, ← HY.out]; exact hown'
      have HBN := Lib.hid hb1'
      clear hown' hgrow hob hb1'
      go_wp2
      exact ⟨⟨j + 1, by omega, by go_num, HN.out, HBN.out, A1, c1', rfl⟩, by simp [intOf]; omega⟩
    · obtain rfl : j = N := by omega
      have hlt2 : ¬ (j : Int) < j := by omega
      obtain ⟨A3, c3, e3, hn3⟩ := slt_row HO.out HFN.out
      injection e3 with e3 _ e4
      subst e3 e4
      have HN3 := Lib.hid hn3
      clear hn3
      go_wp2
      go_ret
      have el : ((List.range j).map fun i => (f i).toNat).length = j := by simp
      exact ⟨A2, c2, (by rw [el]; rfl), by rw [el]; exact HN3.out, below_next HBU.out (Nat.le_refl _) HB.out⟩

set_option maxHeartbeats 2000000 in
theorem locData_any (s : Int) (A A' : Option Addr) (nw c n c' : Nat) (wd : Nat → Int) (F : Nat → Fr) (a i : Int) (w : World) (hA : Arr w w.heap.size A nw c wd) (hT : Tab w w.heap.size A' n c' F) (hu : U64w nw wd)
    (a0 : -9223372036854775808 ≤ a) (a1 : a ≤ 9223372036854775807) :
    Calls Try.prog 76 #[.agg #[.int .i64 s, .slice A nw c, .slice A' n c'], .int .i64 a, .int .i64 i, .func (.func 45) #[] #[]] w (Gives2 (plcV s nw wd n F a i false) (plcE s nw wd n F a i false) w) := by
  obtain ⟨U, hU⟩ : ∃ U, U = w.alloc (.cells #[.int .i64 s, .slice A nw c, .slice A' n c'] 25) := ⟨_, rfl⟩
  have BU : Blk U w.heap.size 25 #[.int .i64 s, .slice A nw c, .slice A' n c'] := by rw [hU]; exact Blk.new _ _ _
  have HBU : Hid (Below w.heap.size w U) := by rw [hU]; exact (Below.refl _ _).alloc (Nat.le_refl _) _
  have HU := Lib.hid hU
  have HA := Lib.hid (hA.next HBU.out)
  have HT := Lib.hid (hT.next HBU.out)
  have p0 := BU.cell 0
  have p1 := BU.cell 1
  have p2 := BU.cell 2
  have pz := BU.lt
  simp at p0 p1 p2
  clear hA hT hU
  have c1 := objDec_any s A A' nw c n c' wd F a U HA.out HT.out hu a0 a1
  have hr := shp_range (s := s) (n := n) (F := F) (a := a) hu
  have HBAD := Lib.hid (fun h => plc_bad (s := s) (nw := nw) (wd := wd) (n := n) (F := F) (a := a) (i := i) (t := false) h)
  have HFIN := Lib.hid (fun h => fin_eq (s := s) (nw := nw) (wd := wd) (n := n) (F := F) (a := a) (i := i) (t := false) hu h)
  obtain ⟨R, hR⟩ : ∃ R, R = shpR s nw wd n F a := ⟨_, rfl⟩
  obtain ⟨D, hD⟩ : ∃ D, D = shpD s nw wd n F a := ⟨_, rfl⟩
  have HRR := Lib.hid hR
  have HDD := Lib.hid hD
  rw [← hR, ← hD] at hr
  have FI : ∀ W, Below U.heap.size U W → Calls Try.prog 45 #[.agg #[.int .i64 s, .slice A nw c, .slice A' n c', .int .i64 a, .int .i64 R, .int .i64 D], .int .i64 i] W (Gives2 (if i < 0 ∨ D ≤ i then 0 else stpV s nw wd n F a (atK R false i)) (if i < 0 ∨ D ≤ i then 17 else stpE s nw wd n F a (atK R false i)) W) := fun W hW =>
    dataAt_any s A A' nw c n c' wd F a R D i W (HA.out.next hW) (HT.out.next hW) a0 a1 (by omega) (by omega) (by omega)
  obtain ⟨pv, hpv⟩ : ∃ v, v = (if i < 0 ∨ D ≤ i then 0 else stpV s nw wd n F a (atK R false i)) := ⟨_, rfl⟩
  obtain ⟨pe, hpe⟩ : ∃ v, v = (if i < 0 ∨ D ≤ i then 17 else stpE s nw wd n F a (atK R false i)) := ⟨_, rfl⟩
  rw [← hpv, ← hpe] at FI
  have HPV := Lib.hid hpv
  have HPE := Lib.hid hpe
  have HFI := Lib.hid FI
  clear hR hD FI hpv hpe hr
  go_enter Try.func76, Try.ntmps76
  go_wp2_with fail
  rw [← HU.out]
  refine c1.mono ?_
  rintro e U1 (⟨y, h1, h2, rfl, hb1⟩ | ⟨h1, rfl, hb1⟩)
  · have HB1 := Lib.hid (below_next HBU.out (Nat.le_refl _) hb1)
    have hne : (y != 0) = true := by simpa using h2
    have hbd := HBAD.out (by rw [h1]; exact h2)
    rw [h1] at hbd
    have HBD := Lib.hid hbd
    unfold zObj
    clear h1 h2 hb1 p0 p1 p2 hbd HFI HFIN HBAD
    go_wp2_with fail
    go_ret2
    exact ⟨ret2 HBD.out.2.symm HBD.out.1.symm, HB1.out.alloc HB1.out.size _⟩
  · have hfin := HFIN.out h1
    have HFE := Lib.hid hfin
    unfold ObjV
    rw [← HRR.out, ← HDD.out]
    have HBB := Lib.hid hb1
    obtain ⟨U2, hU2⟩ : ∃ U2, U2 = U1.alloc (.cells #[.int .i64 s, .slice A nw c, .slice A' n c', .int .i64 a, .int .i64 R, .int .i64 D] 76) := ⟨_, rfl⟩
    have hb2 : Below U1.heap.size U1 U2 := by rw [hU2]; exact (Below.refl _ _).alloc (Nat.le_refl _) _
    have BO : Blk U2 U1.heap.size 76 #[.int .i64 s, .slice A nw c, .slice A' n c', .int .i64 a, .int .i64 R, .int .i64 D] := by rw [hU2]; exact Blk.new _ _ _
    have HB2 := Lib.hid (below_next HBB.out (Nat.le_refl _) hb2)
    have HU2 := Lib.hid hU2
    have o0 := BO.cell 0
    have o1 := BO.cell 1
    have o2 := BO.cell 2
    have o3 := BO.cell 3
    have o4 := BO.cell 4
    have o5 := BO.cell 5
    have oz := BO.lt
    simp at o0 o1 o2 o3 o4 o5
    clear h1 hb1 hb2 p0 p1 p2 hfin hU2 HFIN HBAD
    go_upto_region 2 with fail
    rw [← HU2.out]
    go_wp2_with fail
    refine (HFI.out _ HB2.out).mono ?_
    rintro e U3 ⟨rfl, hb3⟩
    have HB3 := Lib.hid (below_next HBU.out (Nat.le_refl _) (below_next HB2.out (Nat.le_refl _) hb3))
    clear hb3
    go_wp2_with fail
    go_ret2
    refine ⟨ret2 ?_ ?_, HB3.out⟩
    · rw [HPV.out, HFE.out.1, HRR.out]; rw [HDD.out]; rfl
    · rw [HPE.out, HFE.out.2, HRR.out]; rw [HDD.out]; rfl

set_option maxHeartbeats 2000000 in
theorem readData_any (s : Int) (A A' : Option Addr) (nw c n c' : Nat) (wd : Nat → Int) (F : Nat → Fr) (a i : Int) (w : World) (hA : Arr w w.heap.size A nw c wd) (hT : Tab w w.heap.size A' n c' F) (hu : U64w nw wd)
    (a0 : -9223372036854775808 ≤ a) (a1 : a ≤ 9223372036854775807) :
    Calls Try.prog 52 #[.agg #[.int .i64 s, .slice A nw c, .slice A' n c'], .int .i64 a, .int .i64 i, .func (.func 45) #[] #[]] w (GivesW (getV s nw wd n F a i false) (plcE s nw wd n F a i false) w) := by
  obtain ⟨U, hU⟩ : ∃ U, U = w.alloc (.cells #[.int .i64 s, .slice A nw c, .slice A' n c'] 25) := ⟨_, rfl⟩
  have BU : Blk U w.heap.size 25 #[.int .i64 s, .slice A nw c, .slice A' n c'] := by rw [hU]; exact Blk.new _ _ _
  have HBU : Hid (Below w.heap.size w U) := by rw [hU]; exact (Below.refl _ _).alloc (Nat.le_refl _) _
  have HU := Lib.hid hU
  have HA := Lib.hid (hA.next HBU.out)
  have HT := Lib.hid (hT.next HBU.out)
  have p0 := BU.cell 0
  have p1 := BU.cell 1
  have p2 := BU.cell 2
  have pz := BU.lt
  simp at p0 p1 p2
  clear hA hT hU
  have c1 := locData_any s A A' nw c n c' wd F a i U HA.out HT.out hu a0 a1
  by_cases h0 : plcE s nw wd n F a i false = 0
  · obtain ⟨h1, h2, h3⟩ := plc_yes h0
    have hvp := validB_of (stp_iff.1 (shp_yes h1).1).1
    obtain ⟨s0, _⟩ := shB_yes hvp.1
    obtain ⟨K, rfl⟩ := Int.eq_ofNat_of_zero_le (show 0 ≤ s by omega)
    obtain ⟨P, hP, hlt⟩ := stp_nat (fld_step hu h1 h2 h3).1
    rw [← (plc_ok h1 h2 h3).2] at hP
    have hg : getV K nw wd n F a i false = wd P := by unfold getV; rw [if_pos h0, hP, Int.toNat_natCast]
    rw [h0, hP] at c1
    rw [h0, hg]
    obtain ⟨b, o, rfl, hb, hc⟩ := HA.out.at_ P hlt
    obtain ⟨x, hx⟩ : ∃ x, x = wd P := ⟨_, rfl⟩
    rw [← hx] at hc ⊢
    have pi : 0 ≤ (P : Int) ∧ (P : Int) < nw := by omega
    have zb : b < U.heap.size := hb
    clear hvp h0 h1 h2 h3 hP hg hx hb
    go_enter Try.func52, Try.ntmps52
    go_wp2_with fail
    rw [← HU.out]
    refine c1.mono ?_
    rintro e U1 ⟨rfl, hb1⟩
    have BU1 := BU.next hb1
    have HB1 := Lib.hid (below_next HBU.out (Nat.le_refl _) hb1)
    have q0 := BU1.cell 0
    have q1 := BU1.cell 1
    have q2 := BU1.cell 2
    have qz := BU1.lt
    simp at q0 q1 q2
    have hc2 := (hb1.cell (p := ⟨b, o + P, none⟩) zb).trans hc
    have zb2 : b < U1.heap.size := Nat.lt_of_lt_of_le zb hb1.size
    clear hb1 p0 p1 p2
    go_wp2_with fail
    go_ret2
    exact ⟨rfl, HB1.out⟩
  · have hg : getV s nw wd n F a i false = 0 := by unfold getV; rw [if_neg h0]
    rw [hg]
    obtain ⟨y, hy⟩ : ∃ y, y = plcE s nw wd n F a i false := ⟨_, rfl⟩
    obtain ⟨v, hv'⟩ : ∃ v, v = plcV s nw wd n F a i false := ⟨_, rfl⟩
    rw [← hy, ← hv'] at c1
    rw [← hy] at h0 ⊢
    have hne : (y != 0) = true := by simpa using h0
    clear hg hy hv' h0
    go_enter Try.func52, Try.ntmps52
    go_wp2_with fail
    rw [← HU.out]
    refine c1.mono ?_
    rintro e U1 ⟨rfl, hb1⟩
    have HB1 := Lib.hid (below_next HBU.out (Nat.le_refl _) hb1)
    clear hb1 p0 p1 p2
    go_wp2_with fail
    go_ret2
    exact ⟨rfl, HB1.out⟩

set_option maxHeartbeats 4000000 in
theorem writeData_any (s : Int) (A A' : Option Addr) (nw c n c' : Nat) (wd : Nat → Int) (F : Nat → Fr) (a i v : Int) (w : World) (hA : Arr w w.heap.size A nw c wd) (hT : Tab w w.heap.size A' n c' F) (hu : U64w nw wd)
    (a0 : -9223372036854775808 ≤ a) (a1 : a ≤ 9223372036854775807) :
    Calls Try.prog 54 #[.agg #[.int .i64 s, .slice A nw c, .slice A' n c'], .int .i64 a, .int .i64 i, .int .u64 v, .func (.func 45) #[] #[]] w (SetOut s nw n wd F a i false v w) := by
  obtain ⟨U, hU⟩ : ∃ U, U = (w.alloc (.cells #[.int .i64 s, .slice A nw c, .slice A' n c'] 25)).alloc (.cells #[.int .i64 0, .slice none 0 0, .slice none 0 0] 25) := ⟨_, rfl⟩
  have BU : Blk U w.heap.size 25 #[.int .i64 s, .slice A nw c, .slice A' n c'] := by rw [hU]; exact (Blk.new _ _ _).alloc _
  have BR : Blk U (w.heap.size + 1) 25 #[.int .i64 0, .slice none 0 0, .slice none 0 0] := by rw [hU]; exact Blk.newAt _ _ _ _ (by simp)
  have HBU : Hid (Below w.heap.size w U) := by rw [hU]; exact ((Below.refl _ _).alloc (Nat.le_refl _) _).alloc (by simp) _
  have HU := Lib.hid hU
  have HA := Lib.hid (hA.next HBU.out)
  have HT := Lib.hid (hT.next HBU.out)
  have p0 := BU.cell 0
  have p1 := BU.cell 1
  have p2 := BU.cell 2
  have pz := BU.lt
  simp at p0 p1 p2
  clear hA hT hU
  have c1 := locData_any s A A' nw c n c' wd F a i U HA.out HT.out hu a0 a1
  by_cases h0 : plcE s nw wd n F a i false = 0
  · obtain ⟨h1, h2, h3⟩ := plc_yes h0
    have hvp := validB_of (stp_iff.1 (shp_yes h1).1).1
    obtain ⟨s0, _⟩ := shB_yes hvp.1
    obtain ⟨K, rfl⟩ := Int.eq_ofNat_of_zero_le (show 0 ≤ s by omega)
    obtain ⟨n2, n64, nw0, nw1⟩ := sp_bounds hvp
    obtain ⟨P, hP, hlt⟩ := stp_nat (fld_step hu h1 h2 h3).1
    rw [← (plc_ok h1 h2 h3).2] at hP
    have hs : (fun j => if j = P then v else wd j) = setW K nw wd n F a i false v := by
      unfold setW
      rw [hP, Int.toNat_natCast]
    have HS := Lib.hid hs
    have H0 := Lib.hid h0
    rw [h0, hP] at c1
    have pi : 0 ≤ (P : Int) ∧ (P : Int) < nw := by omega
    clear hvp h0 h1 h2 h3 hP hs
    go_enter Try.func54, Try.ntmps54
    go_wp2_with fail
    rw [← HU.out]
    refine c1.mono ?_
    rintro e U1 ⟨rfl, hb1⟩
    have BU1 := BU.next hb1
    have BR1 := BR.next hb1
    have HB1 := Lib.hid hb1
    have q0 := BU1.cell 0
    have q1 := BU1.cell 1
    have q2 := BU1.cell 2
    have qz := BU1.lt
    simp at q0 q1 q2
    clear hb1 p0 p1 p2 pz
    go_wp2_with fail
    refine (objClone_any K A A' nw c n c' wd F U1 (HA.out.next HB1.out) (HT.out.next HB1.out) (by omega) (by omega) (by omega) (by omega)).mono ?_
    rintro e U3 ⟨A1, c1, g, c2, rfl, ho, ht, hb3⟩
    obtain ⟨x, rfl, xb, xz⟩ := ho.where_ nw0
    have hgb := ht.bounds
    have BR3 := BR1.next hb3
    have HB3 : Hid (Below w.heap.size w U3) := below_next HBU.out (Nat.le_refl _) (below_next HB1.out (Nat.le_refl _) hb3)
    have z1 : w.heap.size + 1 < U1.heap.size := BR1.lt
    obtain ⟨X, hX⟩ : ∃ X, X = U3.alloc (.cells #[.int .i64 K, .slice (some ⟨x, 0, none⟩) nw c1, .slice (some ⟨g, 0, none⟩) n c2] 25) := ⟨_, rfl⟩
    have BO : Blk X U3.heap.size 25 #[.int .i64 K, .slice (some ⟨x, 0, none⟩) nw c1, .slice (some ⟨g, 0, none⟩) n c2] := by rw [hX]; exact Blk.new _ _ _
    have hbx : Below U3.heap.size U3 X := by rw [hX]; exact (Below.refl _ _).alloc (Nat.le_refl _) _
    have BR4 := BR3.next hbx
    have HB4 : Hid (Below w.heap.size w X) := below_next HB3.out (Nat.le_refl _) hbx
    have HO4 := Lib.hid (ho.below hbx)
    have HT4 := Lib.hid (ht.below hbx)
    have HX := Lib.hid hX
    obtain ⟨gx, hgx, _, gx2, wc0, wf0, hnew⟩ := HO4.out.spot P hlt v
    injection hgx with hgx
    injection hgx with hgx
    subst hgx
    rw [HS.out] at hnew
    have hT5 := (HT4.out.beside HO4.out (turn_set (turn_below (a := X) (w := X) (Below.refl _ _)) P (.int .u64 v))).1
    have HB5 := HB4.out.setCell (p := ⟨x, P, none⟩) (show w.heap.size ≤ x by omega) (.int .u64 v)
    have HN5 := Lib.hid hnew
    have HT5 := Lib.hid hT5
    have HB5 := Lib.hid HB5
    have BO5 := BO.far (p := ⟨x, P, none⟩) (show U3.heap.size ≠ x by omega) (.int .u64 v)
    have BR5 := BR4.far (p := ⟨x, P, none⟩) (show w.heap.size + 1 ≠ x by omega) (.int .u64 v)
    obtain ⟨Y, hY⟩ : ∃ Y, Y = X.setCell ⟨x, P, none⟩ (.int .u64 v) := ⟨_, rfl⟩
    rw [← hY] at HN5 HT5 HB5 BO5 BR5
    have HY := Lib.hid hY
    have o0 := BO.cell 0
    have o1 := BO.cell 1
    have o2 := BO.cell 2
    have oz := BO.lt
    simp at o0 o1 o2
    clear ho ht hb3 hX hbx BR3 hnew hT5 hY q0 q1 q2 qz BU BU1 BR BR1
    go_upto_region 5 with fail
    rw [← HX.out]
    go_upto_region 6 with fail
    rw [← HY.out]
    have y0 := BO5.cell 0
    have y1 := BO5.cell 1
    have y2 := BO5.cell 2
    have yz := BO5.lt
    have r0 := BR5.cell 0
    have r1 := BR5.cell 1
    have r2 := BR5.cell 2
    have f0 := BR5.frozen 0
    have f1 := BR5.frozen 1
    have f2 := BR5.frozen 2
    have rz := BR5.lt
    simp at y0 y1 y2 r0 r1 r2
    clear o0 o1 o2 oz wc0 wf0
    go_wp2
    refine bodyPost_ret (v := .tuple #[.agg #[.int .i64 K, .slice (some ⟨x, 0, none⟩) nw c1, .slice (some ⟨g, 0, none⟩) n c2], .int .i64 0]) (by simp [results, Try.results54, go_sem, r0, r1, r2]) rfl (.inr ⟨H0.out, _, _, _, _, rfl, ?_, ?_, ?_⟩)
    · exact (HN5.out.put3 z1 _ _ _).lower (by omega)
    · exact (HT5.out.put3 z1 _ _ _).lower (by omega)
    · exact below_put3 HB5.out (by omega) _ _ _
  · obtain ⟨y, hy⟩ : ∃ y, y = plcE s nw wd n F a i false := ⟨_, rfl⟩
    obtain ⟨v', hv'⟩ : ∃ v, v = plcV s nw wd n F a i false := ⟨_, rfl⟩
    rw [← hy, ← hv'] at c1
    rw [← hy] at h0
    have hne : (y != 0) = true := by simpa using h0
    have HY := Lib.hid hy
    have HY0 := Lib.hid h0
    clear hy hv' h0
    go_enter Try.func54, Try.ntmps54
    go_wp2_with fail
    rw [← HU.out]
    refine c1.mono ?_
    rintro e U1 ⟨rfl, hb1⟩
    have BR2 := BR.next hb1
    have HB2 := Lib.hid (below_next HBU.out (Nat.le_refl _) hb1)
    have r0 := BR2.cell 0
    have r1 := BR2.cell 1
    have r2 := BR2.cell 2
    have f0 := BR2.frozen 0
    have f1 := BR2.frozen 1
    have f2 := BR2.frozen 2
    have rz := BR2.lt
    simp at r0 r1 r2
    clear hb1 p0 p1 p2
    go_wp2_with fail
    refine bodyPost_ret (v := .tuple #[.agg #[.int .i64 0, .slice none 0 0, .slice none 0 0], .int .i64 y]) (by simp [results, Try.results54, go_sem, r0, r1, r2]) rfl (.inl ⟨y, HY.out.symm, HY0.out, rfl, below_put3 HB2.out (by omega) _ _ _⟩)

theorem objData_any (s : Int) (A A' : Option Addr) (nw c n c' : Nat) (wd : Nat → Int) (F : Nat → Fr) (a i : Int) (w : World) (hA : Arr w w.heap.size A nw c wd) (hT : Tab w w.heap.size A' n c' F) (hu : U64w nw wd)
    (a0 : -9223372036854775808 ≤ a) (a1 : a ≤ 9223372036854775807) :
    Calls Try.prog 28 #[.agg #[.int .i64 s, .slice A nw c, .slice A' n c'], .int .i64 a, .int .i64 i] w (GivesW (getV s nw wd n F a i false) (plcE s nw wd n F a i false) w) := by
  obtain ⟨U, hU⟩ : ∃ U, U = w.alloc (.cells #[.int .i64 s, .slice A nw c, .slice A' n c'] 25) := ⟨_, rfl⟩
  have BU : Blk U w.heap.size 25 #[.int .i64 s, .slice A nw c, .slice A' n c'] := by rw [hU]; exact Blk.new _ _ _
  have HBU : Hid (Below w.heap.size w U) := by rw [hU]; exact (Below.refl _ _).alloc (Nat.le_refl _) _
  have HU := Lib.hid hU
  have HA := Lib.hid (hA.next HBU.out)
  have HT := Lib.hid (hT.next HBU.out)
  have p0 := BU.cell 0
  have p1 := BU.cell 1
  have p2 := BU.cell 2
  have pz := BU.lt
  simp at p0 p1 p2
  clear hA hT hU
  have c1 := readData_any s A A' nw c n c' wd F a i U HA.out HT.out hu a0 a1
  obtain ⟨x, hx⟩ : ∃ x, x = getV s nw wd n F a i false := ⟨_, rfl⟩
  obtain ⟨y, hy⟩ : ∃ y, y = plcE s nw wd n F a i false := ⟨_, rfl⟩
  rw [← hx, ← hy] at c1 ⊢
  clear hx hy
  go_enter Try.func28, Try.ntmps28
  go_wp2_with fail
  rw [← HU.out]
  refine c1.mono ?_
  rintro e U1 ⟨rfl, hb1⟩
  have HB1 := Lib.hid (below_next HBU.out (Nat.le_refl _) hb1)
  clear hb1
  go_wp2_with fail
  go_ret2
  exact ⟨rfl, HB1.out⟩

set_option maxHeartbeats 1000000 in
theorem objSetData_any (s : Int) (A A' : Option Addr) (nw c n c' : Nat) (wd : Nat → Int) (F : Nat → Fr) (a i v : Int) (w : World) (hA : Arr w w.heap.size A nw c wd) (hT : Tab w w.heap.size A' n c' F) (hu : U64w nw wd)
    (a0 : -9223372036854775808 ≤ a) (a1 : a ≤ 9223372036854775807) :
    Calls Try.prog 30 #[.agg #[.int .i64 s, .slice A nw c, .slice A' n c'], .int .i64 a, .int .i64 i, .int .u64 v] w (SetOut s nw n wd F a i false v w) := by
  obtain ⟨U, hU⟩ : ∃ U, U = (w.alloc (.cells #[.int .i64 s, .slice A nw c, .slice A' n c'] 25)).alloc (.cells #[.int .i64 0, .slice none 0 0, .slice none 0 0] 25) := ⟨_, rfl⟩
  have BU : Blk U w.heap.size 25 #[.int .i64 s, .slice A nw c, .slice A' n c'] := by rw [hU]; exact (Blk.new _ _ _).alloc _
  have BR : Blk U (w.heap.size + 1) 25 #[.int .i64 0, .slice none 0 0, .slice none 0 0] := by rw [hU]; exact Blk.newAt _ _ _ _ (by simp)
  have HBU : Hid (Below w.heap.size w U) := by rw [hU]; exact ((Below.refl _ _).alloc (Nat.le_refl _) _).alloc (by simp) _
  have HU := Lib.hid hU
  have HA := Lib.hid (hA.next HBU.out)
  have HT := Lib.hid (hT.next HBU.out)
  have p0 := BU.cell 0
  have p1 := BU.cell 1
  have p2 := BU.cell 2
  have pz := BU.lt
  simp at p0 p1 p2
  clear hA hT hU
  have c1 := writeData_any s A A' nw c n c' wd F a i v U HA.out HT.out hu a0 a1
  go_enter Try.func30, Try.ntmps30
  go_wp2_with fail
  rw [← HU.out]
  refine c1.mono ?_
  have z1 : w.heap.size + 1 < U.heap.size := BR.lt
  rintro e U1 (⟨y, h1, h2, rfl, hb1⟩ | ⟨h0, A1, c1, g, c2, rfl, h1, h2, hb1⟩)
  · have BR1 := BR.next hb1
    have HB1 := Lib.hid (below_next HBU.out (Nat.le_refl _) hb1)
    have H1 := Lib.hid h1
    have H2 := Lib.hid h2
    have r0 := BR1.cell 0
    have r1 := BR1.cell 1
    have r2 := BR1.cell 2
    have f0 := BR1.frozen 0
    have f1 := BR1.frozen 1
    have f2 := BR1.frozen 2
    have rz := BR1.lt
    simp at r0 r1 r2
    clear hb1 p0 p1 p2 pz h1 h2
    go_wp2_with fail
    refine bodyPost_ret (v := .tuple #[.agg #[.int .i64 0, .slice none 0 0, .slice none 0 0], .int .i64 y]) (by simp [results, Try.results30, go_sem, r0, r1, r2]) rfl (.inl ⟨y, H1.out, H2.out, rfl, below_put3 HB1.out (by omega) _ _ _⟩)
  · have BR1 := BR.next hb1
    have HB1 := Lib.hid (below_next HBU.out (Nat.le_refl _) hb1)
    have H0 := Lib.hid h0
    have H1 := Lib.hid h1
    have H2 := Lib.hid h2
    have r0 := BR1.cell 0
    have r1 := BR1.cell 1
    have r2 := BR1.cell 2
    have f0 := BR1.frozen 0
    have f1 := BR1.frozen 1
    have f2 := BR1.frozen 2
    have rz := BR1.lt
    simp at r0 r1 r2
    clear hb1 p0 p1 p2 pz h1 h2 h0
    go_wp2_with fail
    refine bodyPost_ret (v := .tuple #[.agg #[.int .i64 s, .slice A1 nw c1, .slice (some ⟨g, 0, none⟩) n c2], .int .i64 0]) (by simp [results, Try.results30, go_sem, r0, r1, r2]) rfl (.inr ⟨H0.out, _, _, _, _, rfl, ?_, ?_, ?_⟩)
    · exact (H1.out.put3 z1 _ _ _).lower (by omega)
    · exact (H2.out.put3 z1 _ _ _).lower (by omega)
    · exact below_put3 HB1.out (by omega) _ _ _

set_option maxHeartbeats 2000000 in
/-- The addresses of the first N fields, all of which Step finds. -/
theorem addrData_any (s : Int) (A A' : Option Addr) (nw c n c' : Nat) (wd : Nat → Int) (F : Nat → Fr) (a r d : Int) (N : Nat) (w : World) (hA : Arr w w.heap.size A nw c wd) (hT : Tab w w.heap.size A' n c' F)
    (a0 : -9223372036854775808 ≤ a) (a1 : a ≤ 9223372036854775807) (r0 : 0 ≤ r) (r1 : r ≤ 15) (d1 : d ≤ 32) (hN : N ≤ 32) (hN2 : (N : Int) ≤ d) (hst : ∀ i : Nat, i < N → stpE s nw wd n F a (atK r false i) = 0 ∧ 0 ≤ stpV s nw wd n F a (atK r false i)) :
    Calls Try.prog 43 #[.agg #[.int .i64 s, .slice A nw c, .slice A' n c', .int .i64 a, .int .i64 r, .int .i64 d], .func (.func 45) #[] #[], .int .i64 N] w (GivesNums ((List.range N).map fun (i : Nat) => (stpV s nw wd n F a (atK r false i)).toNat) w) := by
  obtain ⟨i0, hi0, hz0, hz1, hz2⟩ := info_parts int_info
  obtain ⟨U, hU⟩ : ∃ U, U = w.alloc (.cells #[.int .i64 s, .slice A nw c, .slice A' n c', .int .i64 a, .int .i64 r, .int .i64 d] 76) := ⟨_, rfl⟩
  have BU : Blk U w.heap.size 76 #[.int .i64 s, .slice A nw c, .slice A' n c', .int .i64 a, .int .i64 r, .int .i64 d] := by rw [hU]; exact Blk.new _ _ _
  have HBU : Hid (Below w.heap.size w U) := by rw [hU]; exact (Below.refl _ _).alloc (Nat.le_refl _) _
  have HU := Lib.hid hU
  have HA := Lib.hid (hA.next HBU.out)
  have HT := Lib.hid (hT.next HBU.out)
  obtain ⟨f, hf⟩ : ∃ f : Nat → Int, f = fun (i : Nat) => stpV s nw wd n F a (atK r false i) := ⟨_, rfl⟩
  have hfn : ∀ i, i < N → 0 ≤ f i := fun i hi => by rw [hf]; exact (hst i hi).2
  have hsl : ((List.range N).map fun (i : Nat) => (stpV s nw wd n F a (atK r false i)).toNat) = (List.range N).map fun i => (f i).toNat := by rw [hf]
  rw [hsl]
  have FI : ∀ i : Nat, i < N → ∀ W, Below U.heap.size U W → Calls Try.prog 45 #[.agg #[.int .i64 s, .slice A nw c, .slice A' n c', .int .i64 a, .int .i64 r, .int .i64 d], .int .i64 i] W (Gives2 (f i) 0 W) := fun i hi W hW => by
    have h := dataAt_any s A A' nw c n c' wd F a r d i W (HA.out.next hW) (HT.out.next hW) a0 a1 r0 r1 d1
    rw [if_neg (by omega), if_neg (by omega), (hst i hi).1] at h
    rw [hf]
    exact h
  have HFI := Lib.hid FI
  have HFN := Lib.hid hfn
  clear hA hT hU hst hf hfn hsl FI
  go_enter Try.func43, Try.ntmps43
  go_wp2
  rw [← HU.out]
  go_loopw [7, 8, 9, 10, 12] (fun v _ _ _ i wr => ∃ j : Nat, j ≤ N ∧ i = .int .i64 j ∧ wr.ownsRow U.heap.size 3 1 v j (intL f j) ∧ Below U.heap.size U wr ∧ (∃ A c, v = .slice A j c)) (fun _ _ _ _ i _ => N - (intOf i).toNat)
  case atStart => exact ⟨0, by omega, rfl, World.ownsRow_nil _ _ _ _, Below.refl _ _, none, 0, rfl⟩
  case round =>
    obtain ⟨j, hj, rfl, hown, hb, A2, c2, rfl⟩ := hrel
    have BRR := BU.next hb
    have HO := Lib.hid hown
    have HB := Lib.hid hb
    clear hown hb
    by_cases hlt : j < N
    · have q0 := BRR.cell 0
      have q1 := BRR.cell 1
      have q2 := BRR.cell 2
      have q3 := BRR.cell 3
      have q4 := BRR.cell 4
      have q5 := BRR.cell 5
      have qz := BRR.lt
      simp at q0 q1 q2 q3 q4 q5
      have G2 := HFI.out j hlt wr HB.out
      have hlt2 : (j : Int) < N := by omega
      go_wp2_with fail
      refine G2.mono ?_
      rintro e W1 ⟨rfl, hb1⟩
      have HO1 := Lib.hid (ownsRow_below8 HO.out hb1)
      have HBB := Lib.hid (below_next HB.out (Nat.le_refl _) hb1)
      have hob := row_block HO1.out
      have zz : U.heap.size ≤ W1.heap.size := HBB.out.size
      obtain ⟨y, hy⟩ : ∃ y, y = f j := ⟨_, rfl⟩
      rw [← hy]
      have HY := Lib.hid hy
      clear hb1 q0 q1 q2 q3 q4 q5 qz G2 hy
      go_wp2_with (at_builtin; refine wpList_append_own _ rfl _ _ 26 rfl U.heap.size 3 i0 (.int .i64 0) 1 8 Try.underlying26 hi0 hz0 hz1 hz2 rfl (by decide) _ j (intL f j) rfl (HO1.out.alloc _) ⟨W1.heap.size, 0, none⟩ 1 1 [.int .i64 y] rfl rfl ?c1 (by simp [Value.oneCell']) (by simp only [maxLen]; omega) (by omega) ?c5 ?_)
      case c1 => exact one_news (by go_simp)
      case c5 => simp; omega
      intro v' w1 hown' hgrow _
      obtain ⟨A1, c1', rfl, _⟩ := row_slice hown'
      have hb1' : Below U.heap.size U w1 := (HBB.out.alloc HBB.out.size _).grown hgrow (by simp; omega) hob
      have HN : Hid (w1.ownsRow U.heap.size 3 1 (.slice A1 (j + 1) c1') (j + 1) (intL f (j + 1))) := by rw [intL_succ, ← HY.out]; exact hown'
      have HBN := Lib.hid hb1'
      clear hown' hgrow hob hb1'
      go_wp2
      exact ⟨⟨j + 1, by omega, by go_num, HN.out, HBN.out, A1, c1', rfl⟩, by simp [intOf]; omega⟩
    · obtain rfl : j = N := by omega
      have hlt2 : ¬ (j : Int) < j := by omega
      obtain ⟨A3, c3, e3, hn3⟩ := slt_row HO.out HFN.out
      injection e3 with e3 _ e4
      subst e3 e4
      have HN3 := Lib.hid hn3
      clear hn3
      go_wp2
      go_ret
      have el : ((List.range j).map fun i => (f i).toNat).length = j := by simp
      exact ⟨A2, c2, (by rw [el]; rfl), by rw [el]; exact HN3.out, below_next HBU.out (Nat.le_refl _) HB.out⟩
end Go.Proofs.Ytfjdafnejhgijaa
